/- Joined: Fo7. -/
import Derived.Test.YtemanednddhfaaaGreatDoorMCt7
import Derived.WalkKit
import Derived.WalkSpells
import Derived.WalkLawsBesides
import Derived.BigQuiet
import Derived.Laws.BitsLemmas
import Derived.Lib.ConvBytes
import Derived.Test.YtemanednddhfaaaGreatDoorMJA
import Derived.Test.YtemanednddhfaaaGreatDoorMUIs
import Derived.Test.YtemanednddhfaaaGreatDoorMJG
import Derived.Laws.CopyOwn
import Derived.Laws.CopyRow
import Derived.Laws.IdiomCopy
import Derived.Sort.Walk0
namespace Go.Proofs.YtemanednddhfaaaGreatDoor
open Go.RowKit
set_option maxHeartbeats 1000000 in
theorem letterR_any (c : UInt8) (w : World) : Calls Tryz.prog 121 #[U8 c] w fun e w' => e = .returned (.bool (X.isL c)) ∧ w' = w := by
 have hc := c.toNat_lt
 generalize hr : X.isL c = r
 unfold U8
 go_enter Tryz.func121, Tryz.ntmps121
 go_wp2
 all_goals
   go_ret
   refine ⟨?_, rfl⟩
   subst hr
   simp [X.isL, *]
   first | omega | (rw [Bool.eq_iff_iff]; simp; omega)
theorem digitR_any (c : UInt8) (w : World) : Calls Tryz.prog 122 #[U8 c] w fun e w' => e = .returned (.bool (X.isD c)) ∧ w' = w := by
 have hc := c.toNat_lt
 generalize hr : X.isD c = r
 unfold U8
 go_enter Tryz.func122, Tryz.ntmps122
 go_wp2
 all_goals
   go_ret
   refine ⟨?_, rfl⟩
   subst hr
   simp [X.isD, *]
   first | omega | (rw [Bool.eq_iff_iff]; simp; omega)
end Go.Proofs.YtemanednddhfaaaGreatDoor
namespace Go.Proofs.YtemanednddhfaaaGreatDoor.U
open Go.RowKit Go.Shelf
theorem Reg.subI {P : Program} {w : World} {ρ : Operand → Value} {o : Oper} {t t' : TypeId} {x y : Operand} {k : IntKind} {m n r : Int} (hop : o.op = .binOp .sub t x y t') (hx : ρ x = .int k m) (hy : ρ y = .int k n) (h : k.wrap (m - n) = r) :
   (execOp ρ o).run P w = .ok (.value (.int k r)) w := by
 obtain ⟨dst, op, type, pos, after, guard⟩ := o
 simp only at hop
 subst hop
 subst h
 simp [execOp, hx, hy, eqGuard, binOp, Op.intArith]
set_option maxRecDepth 100000 in
set_option maxHeartbeats 4000000 in
theorem refIs_any (ao : Option Addr) (ca : Nat) (xs : List S.R) (hl : xs.length ≤ 1000000) (w : World) (h : RdR w ao xs) :
   Calls Tryz.prog 97 #[.slice ao xs.length ca] w fun e W' => Told (S.Canon xs) e ∧ Below w.heap.size w W' := by
 go_enter Tryz.func97, Tryz.ntmps97
 go_wp2
 go_loopw [3] (fun p wr => ∃ k : Nat, p = .int .i64 (k : Int) ∧ k ≤ xs.length ∧ S.Canon (xs.take k) ∧ Below w.heap.size w wr) (fun p _ => xs.length - (intOf p).toNat)
 case atStart => exact ⟨0, rfl, Nat.zero_le _, S.canon_nil, Below.refl _ _⟩
 case round =>
   obtain ⟨k, rfl, hk, hC, hB⟩ := hrel
   by_cases hlt : k < xs.length
   · obtain ⟨b, off, rfl, hd1, hd2⟩ := (h.later hB) k hlt
     have hmem := List.getElem_mem hlt
     have HT : Hid (xs.take (k + 1) = xs.take k ++ [xs[k]]) := List.take_succ_eq_append_getElem hlt
     have hprev : ∀ m, k = m + 1 → ∃ p1 p2 : Int, S.good (p1, p2) = true ∧ (p1, p2) ∈ xs.take k ∧ (∀ x ∈ xs.take k, x.2 ≤ p2) ∧ wr.cell? ⟨b, off + m * 2 + 1, none⟩ = some (.int .i32 p2) := by
       rintro m rfl
       obtain ⟨b', off', e, c1, c2⟩ := (h.later hB) m (by omega)
       cases e
       have hin : xs[m] ∈ xs.take (m + 1) := by
         rw [List.take_succ_eq_append_getElem (by omega)]
         exact List.mem_append_right _ (List.mem_singleton.2 rfl)
       refine ⟨xs[m].1, xs[m].2, hC.good _ hin, hin, ?_, c2⟩
       · intro x hx
         rw [List.take_succ_eq_append_getElem (by omega)] at hx hC
         obtain ⟨_, h2, h3⟩ := S.canon_append.1 hC
         rcases List.mem_append.1 hx with hx | hx
         · have h4 := h3 x hx xs[m] (by simp)
           have h5 := (S.good_iff _).1 (h2.good xs[m] (by simp))
           omega
         · obtain rfl : x = xs[m] := by simpa using hx
           exact Int.le_refl _
     generalize hxk : xs[k] = s at *
     obtain ⟨s1, s2⟩ := s
     simp only at hd1 hd2
     have hgood := refGood_any s1 s2
     obtain ⟨gx, hgx⟩ : ∃ gx, S.good (s1, s2) = gx := ⟨_, rfl⟩
     rw [hgx] at hgood
     have HX := hide hgx
     clear hgx hxk
     cases gx with
     | false =>
       go_wp2_with fail
       obtain ⟨wa, hwa⟩ : ∃ wa, wa = wr.drew := ⟨_, rfl⟩
       have hBa : Below w.heap.size w wa := by rw [hwa]; exact hB.drew
       have cx1 : wa.cell? ⟨b, off + k * 2, none⟩ = some (.int .i32 s1) := by rw [hwa]; exact hd1
       have cx2 : wa.cell? ⟨b, off + k * 2 + 1, none⟩ = some (.int .i32 s2) := by rw [hwa]; exact hd2
       have hbl : b < wa.heap.size := cell_lt cx1
       refine Reg.start (B := wa.heap.size) (by kernel_rfl) ?_
       rw [← hwa]
       refine Reg.take (fun _ _ _ _ _ h => h) 0 _ 10 (.slice (some ⟨b, off, none⟩) xs.length ca) rfl (by kernel_rfl) (by kernel_rfl) (by kernel_rfl) rfl (by kernel_rfl) (by kernel_rfl) (fun _ _ => by kernel_rfl) ?_
       refine Reg.take (fun _ _ _ _ _ h => h) 1 _ 11 (.int .i64 (k : Int)) rfl (by kernel_rfl) (by kernel_rfl) (by kernel_rfl) rfl (by kernel_rfl) (by kernel_rfl) (fun _ _ => by kernel_rfl) ?_
       refine Reg.take (fun _ _ _ _ _ h => h) 2 _ 12 (.pointer (some ⟨b, off + k * 2, none⟩)) rfl (by kernel_rfl) (by kernel_rfl) (by kernel_rfl) rfl (by kernel_rfl) (by kernel_rfl) (fun wx _ => Reg.ix (len := xs.length) (cap := ca) (q := .i64) rfl (by kernel_rfl) (by kernel_rfl) hlt Tryz.underlying23 (elemSize23 wx)) ?_
       refine Reg.take (fun _ _ _ _ _ h => h) 3 _ 13 (.agg #[.int .i32 s1, .int .i32 s2]) rfl (by kernel_rfl) (by kernel_rfl) (by kernel_rfl) rfl (by kernel_rfl) (by kernel_rfl) (fun wx hx => Reg.ld (cs := [.int .i32 s1, .int .i32 s2]) rfl (by kernel_rfl) (range_two ((hx.cell hbl).trans cx1) ((hx.cell hbl).trans cx2)) Tryz.underlying102 rfl (by kernel_rfl)) ?_
       refine Reg.call 4 _ 14 91 _ _ #[.agg #[.int .i32 s1, .int .i32 s2]] rfl (by kernel_rfl) rfl (by kernel_rfl) (by kernel_rfl) rfl (by kernel_rfl) (by kernel_rfl) (hgood wa) ?_
       rintro e w14 ⟨rfl, hb14⟩
       refine ⟨_, w14.heap.size, rfl, hb14.size, hb14, ?_⟩
       refine Reg.take (fun _ _ _ _ _ h => h) 5 _ 15 (.bool true) rfl (by kernel_rfl) (by kernel_rfl) (by kernel_rfl) rfl (by kernel_rfl) (by kernel_rfl) (fun _ _ => by kernel_rfl) ?_
       refine Reg.take (fun _ _ _ _ _ h => h) 6 _ 16 (.bool true) rfl (by kernel_rfl) (by kernel_rfl) (by kernel_rfl) rfl (by kernel_rfl) (by kernel_rfl) (fun _ _ => by kernel_rfl) ?_
       refine Reg.skip (fun _ _ _ _ _ h => h) 7 _ 17 rfl (by kernel_rfl) (by kernel_rfl) (by kernel_rfl) rfl (by kernel_rfl) (by kernel_rfl) ?_
       refine Reg.skip (fun _ _ _ _ _ h => h) 8 _ 18 rfl (by kernel_rfl) (by kernel_rfl) (by kernel_rfl) rfl (by kernel_rfl) (by kernel_rfl) ?_
       refine Reg.skip (fun _ _ _ _ _ h => h) 9 _ 19 rfl (by kernel_rfl) (by kernel_rfl) (by kernel_rfl) rfl (by kernel_rfl) (by kernel_rfl) ?_
       refine Reg.skip (fun _ _ _ _ _ h => h) 10 _ 20 rfl (by kernel_rfl) (by kernel_rfl) (by kernel_rfl) rfl (by kernel_rfl) (by kernel_rfl) ?_
       refine Reg.skip (fun _ _ _ _ _ h => h) 11 _ 21 rfl (by kernel_rfl) (by kernel_rfl) (by kernel_rfl) rfl (by kernel_rfl) (by kernel_rfl) ?_
       refine Reg.skip (fun _ _ _ _ _ h => h) 12 _ 22 rfl (by kernel_rfl) (by kernel_rfl) (by kernel_rfl) rfl (by kernel_rfl) (by kernel_rfl) ?_
       refine Reg.skip (fun _ _ _ _ _ h => h) 13 _ 23 rfl (by kernel_rfl) (by kernel_rfl) (by kernel_rfl) rfl (by kernel_rfl) (by kernel_rfl) ?_
       refine Reg.skip (fun _ _ _ _ _ h => h) 14 _ 24 rfl (by kernel_rfl) (by kernel_rfl) (by kernel_rfl) rfl (by kernel_rfl) (by kernel_rfl) ?_
       refine Reg.skip (fun _ _ _ _ _ h => h) 15 _ 25 rfl (by kernel_rfl) (by kernel_rfl) (by kernel_rfl) rfl (by kernel_rfl) (by kernel_rfl) ?_
       refine Reg.skip (fun _ _ _ _ _ h => h) 16 _ 26 rfl (by kernel_rfl) (by kernel_rfl) (by kernel_rfl) rfl (by kernel_rfl) (by kernel_rfl) ?_
       refine Reg.skip (fun _ _ _ _ _ h => h) 17 _ 27 rfl (by kernel_rfl) (by kernel_rfl) (by kernel_rfl) rfl (by kernel_rfl) (by kernel_rfl) ?_
       refine Reg.skip (fun _ _ _ _ _ h => h) 18 _ 28 rfl (by kernel_rfl) (by kernel_rfl) (by kernel_rfl) rfl (by kernel_rfl) (by kernel_rfl) ?_
       refine Reg.skip (fun _ _ _ _ _ h => h) 19 _ 29 rfl (by kernel_rfl) (by kernel_rfl) (by kernel_rfl) rfl (by kernel_rfl) (by kernel_rfl) ?_
       refine Reg.skip (fun _ _ _ _ _ h => h) 20 _ 30 rfl (by kernel_rfl) (by kernel_rfl) (by kernel_rfl) rfl (by kernel_rfl) (by kernel_rfl) ?_
       refine Reg.skip (fun _ _ _ _ _ h => h) 21 _ 31 rfl (by kernel_rfl) (by kernel_rfl) (by kernel_rfl) rfl (by kernel_rfl) (by kernel_rfl) ?_
       refine Reg.skip (fun _ _ _ _ _ h => h) 22 _ 32 rfl (by kernel_rfl) (by kernel_rfl) (by kernel_rfl) rfl (by kernel_rfl) (by kernel_rfl) ?_
       refine Reg.skip (fun _ _ _ _ _ h => h) 23 _ 33 rfl (by kernel_rfl) (by kernel_rfl) (by kernel_rfl) rfl (by kernel_rfl) (by kernel_rfl) ?_
       refine Reg.take (fun _ _ _ _ _ h => h) 24 _ 34 (.bool true) rfl (by kernel_rfl) (by kernel_rfl) (by kernel_rfl) rfl (by kernel_rfl) (by kernel_rfl) (fun _ _ => by kernel_rfl) ?_
       refine Reg.done_at (by kernel_rfl) { tmps := #[.slice (some ⟨b, off, none⟩) xs.length ca, undef, u2, .int .i64 (k : Int), .int .i64 (k : Int), .slice (some ⟨b, off, none⟩) xs.length ca, .int .i64 (xs.length : Int), .bool true, u8, u9, .slice (some ⟨b, off, none⟩) xs.length ca, .int .i64 (k : Int), .pointer (some ⟨b, off + k * 2, none⟩), .agg #[.int .i32 s1, .int .i32 s2], .bool false, .bool true, .bool true, undef, undef, undef, undef, undef, undef, undef, undef, undef, undef, undef, undef, undef, undef, undef, undef, undef, .bool true], defers := [] } (by kernel_rfl) ?_
       have hB3 := nx hBa hb14
       have HN : Hid (¬ S.Canon xs) := fun hc => by
         have := hc.good _ hmem
         rw [HX.out] at this
         cases this
       clear hprev hC cx1 cx2 hd1 hd2 hgood hwa
       go_wp2
       go_ret
       exact ⟨told_no HN.out, hB3⟩
     | true =>
       have hgs := (S.good_iff _).1 HX.out
       simp only at hgs
       by_cases hz : k = 0
       · have HZ := hide hz
         have HKZ : Hid (decide ((k : Int) > 0) = false) := hide (by simp; omega)
         clear hz
         go_wp2_with fail
         obtain ⟨wa, hwa⟩ : ∃ wa, wa = wr.drew := ⟨_, rfl⟩
         have hBa : Below w.heap.size w wa := by rw [hwa]; exact hB.drew
         have cx1 : wa.cell? ⟨b, off + k * 2, none⟩ = some (.int .i32 s1) := by rw [hwa]; exact hd1
         have cx2 : wa.cell? ⟨b, off + k * 2 + 1, none⟩ = some (.int .i32 s2) := by rw [hwa]; exact hd2
         have hbl : b < wa.heap.size := cell_lt cx1
         refine Reg.start (B := wa.heap.size) (by kernel_rfl) ?_
         rw [← hwa]
         refine Reg.take (fun _ _ _ _ _ h => h) 0 _ 10 (.slice (some ⟨b, off, none⟩) xs.length ca) rfl (by kernel_rfl) (by kernel_rfl) (by kernel_rfl) rfl (by kernel_rfl) (by kernel_rfl) (fun _ _ => by kernel_rfl) ?_
         refine Reg.take (fun _ _ _ _ _ h => h) 1 _ 11 (.int .i64 (k : Int)) rfl (by kernel_rfl) (by kernel_rfl) (by kernel_rfl) rfl (by kernel_rfl) (by kernel_rfl) (fun _ _ => by kernel_rfl) ?_
         refine Reg.take (fun _ _ _ _ _ h => h) 2 _ 12 (.pointer (some ⟨b, off + k * 2, none⟩)) rfl (by kernel_rfl) (by kernel_rfl) (by kernel_rfl) rfl (by kernel_rfl) (by kernel_rfl) (fun wx _ => Reg.ix (len := xs.length) (cap := ca) (q := .i64) rfl (by kernel_rfl) (by kernel_rfl) hlt Tryz.underlying23 (elemSize23 wx)) ?_
         refine Reg.take (fun _ _ _ _ _ h => h) 3 _ 13 (.agg #[.int .i32 s1, .int .i32 s2]) rfl (by kernel_rfl) (by kernel_rfl) (by kernel_rfl) rfl (by kernel_rfl) (by kernel_rfl) (fun wx hx => Reg.ld (cs := [.int .i32 s1, .int .i32 s2]) rfl (by kernel_rfl) (range_two ((hx.cell hbl).trans cx1) ((hx.cell hbl).trans cx2)) Tryz.underlying102 rfl (by kernel_rfl)) ?_
         refine Reg.call 4 _ 14 91 _ _ #[.agg #[.int .i32 s1, .int .i32 s2]] rfl (by kernel_rfl) rfl (by kernel_rfl) (by kernel_rfl) rfl (by kernel_rfl) (by kernel_rfl) (hgood wa) ?_
         rintro e w14 ⟨rfl, hb14⟩
         refine ⟨_, w14.heap.size, rfl, hb14.size, hb14, ?_⟩
         refine Reg.take (fun _ _ _ _ _ h => h) 5 _ 15 (.bool false) rfl (by kernel_rfl) (by kernel_rfl) (by kernel_rfl) rfl (by kernel_rfl) (by kernel_rfl) (fun _ _ => by kernel_rfl) ?_
         refine Reg.take (fun _ _ _ _ _ h => h) 6 _ 16 (.bool false) rfl (by kernel_rfl) (by kernel_rfl) (by kernel_rfl) rfl (by kernel_rfl) (by kernel_rfl) (fun _ _ => by kernel_rfl) ?_
         refine Reg.take (fun _ _ _ _ _ h => h) 7 _ 17 (.int .i64 (k : Int)) rfl (by kernel_rfl) (by kernel_rfl) (by kernel_rfl) rfl (by kernel_rfl) (by kernel_rfl) (fun _ _ => by kernel_rfl) ?_
         refine Reg.take (fun _ _ _ _ _ h => h) 8 _ 18 (.bool false) rfl (by kernel_rfl) (by kernel_rfl) (by kernel_rfl) rfl (by kernel_rfl) (by kernel_rfl) (fun _ _ => Reg.gtr (k := .i64) (m := (k : Int)) (n := 0) rfl (by kernel_rfl) (by kernel_rfl) HKZ.out) ?_
         refine Reg.take (fun _ _ _ _ _ h => h) 9 _ 19 (.bool false) rfl (by kernel_rfl) (by kernel_rfl) (by kernel_rfl) rfl (by kernel_rfl) (by kernel_rfl) (fun _ _ => by kernel_rfl) ?_
         refine Reg.skip (fun _ _ _ _ _ h => h) 10 _ 20 rfl (by kernel_rfl) (by kernel_rfl) (by kernel_rfl) rfl (by kernel_rfl) (by kernel_rfl) ?_
         refine Reg.skip (fun _ _ _ _ _ h => h) 11 _ 21 rfl (by kernel_rfl) (by kernel_rfl) (by kernel_rfl) rfl (by kernel_rfl) (by kernel_rfl) ?_
         refine Reg.skip (fun _ _ _ _ _ h => h) 12 _ 22 rfl (by kernel_rfl) (by kernel_rfl) (by kernel_rfl) rfl (by kernel_rfl) (by kernel_rfl) ?_
         refine Reg.skip (fun _ _ _ _ _ h => h) 13 _ 23 rfl (by kernel_rfl) (by kernel_rfl) (by kernel_rfl) rfl (by kernel_rfl) (by kernel_rfl) ?_
         refine Reg.skip (fun _ _ _ _ _ h => h) 14 _ 24 rfl (by kernel_rfl) (by kernel_rfl) (by kernel_rfl) rfl (by kernel_rfl) (by kernel_rfl) ?_
         refine Reg.skip (fun _ _ _ _ _ h => h) 15 _ 25 rfl (by kernel_rfl) (by kernel_rfl) (by kernel_rfl) rfl (by kernel_rfl) (by kernel_rfl) ?_
         refine Reg.skip (fun _ _ _ _ _ h => h) 16 _ 26 rfl (by kernel_rfl) (by kernel_rfl) (by kernel_rfl) rfl (by kernel_rfl) (by kernel_rfl) ?_
         refine Reg.skip (fun _ _ _ _ _ h => h) 17 _ 27 rfl (by kernel_rfl) (by kernel_rfl) (by kernel_rfl) rfl (by kernel_rfl) (by kernel_rfl) ?_
         refine Reg.skip (fun _ _ _ _ _ h => h) 18 _ 28 rfl (by kernel_rfl) (by kernel_rfl) (by kernel_rfl) rfl (by kernel_rfl) (by kernel_rfl) ?_
         refine Reg.skip (fun _ _ _ _ _ h => h) 19 _ 29 rfl (by kernel_rfl) (by kernel_rfl) (by kernel_rfl) rfl (by kernel_rfl) (by kernel_rfl) ?_
         refine Reg.skip (fun _ _ _ _ _ h => h) 20 _ 30 rfl (by kernel_rfl) (by kernel_rfl) (by kernel_rfl) rfl (by kernel_rfl) (by kernel_rfl) ?_
         refine Reg.skip (fun _ _ _ _ _ h => h) 21 _ 31 rfl (by kernel_rfl) (by kernel_rfl) (by kernel_rfl) rfl (by kernel_rfl) (by kernel_rfl) ?_
         refine Reg.skip (fun _ _ _ _ _ h => h) 22 _ 32 rfl (by kernel_rfl) (by kernel_rfl) (by kernel_rfl) rfl (by kernel_rfl) (by kernel_rfl) ?_
         refine Reg.take (fun _ _ _ _ _ h => h) 23 _ 33 (.bool false) rfl (by kernel_rfl) (by kernel_rfl) (by kernel_rfl) rfl (by kernel_rfl) (by kernel_rfl) (fun _ _ => by kernel_rfl) ?_
         refine Reg.take (fun _ _ _ _ _ h => h) 24 _ 34 (.bool false) rfl (by kernel_rfl) (by kernel_rfl) (by kernel_rfl) rfl (by kernel_rfl) (by kernel_rfl) (fun _ _ => by kernel_rfl) ?_
         refine Reg.done_at (by kernel_rfl) { tmps := #[.slice (some ⟨b, off, none⟩) xs.length ca, undef, u2, .int .i64 (k : Int), .int .i64 (k : Int), .slice (some ⟨b, off, none⟩) xs.length ca, .int .i64 (xs.length : Int), .bool true, u8, u9, .slice (some ⟨b, off, none⟩) xs.length ca, .int .i64 (k : Int), .pointer (some ⟨b, off + k * 2, none⟩), .agg #[.int .i32 s1, .int .i32 s2], .bool true, .bool false, .bool false, .int .i64 (k : Int), .bool false, .bool false, undef, undef, undef, undef, undef, undef, undef, undef, undef, undef, undef, undef, undef, .bool false, .bool false], defers := [] } (by kernel_rfl) ?_
         have hB3 := nx hBa hb14
         have HC : Hid (S.Canon (xs.take (k + 1))) := by
           have := HT.out
           show S.Canon _
           rw [this, HZ.out, List.take_zero, List.nil_append]
           exact S.canon_one HX.out
         clear hprev hC cx1 cx2 hd1 hd2 hgood hwa
         go_wp2
         go_roundw
         case rel => exact ⟨k + 1, by go_num, by omega, HC.out, hB3⟩
         case measure => simp [intOf]; omega
       obtain ⟨m, hkm⟩ : ∃ m, k = m + 1 := ⟨k - 1, by omega⟩
       obtain ⟨p1, p2, hgp, hpm, hpl, cp2'⟩ := hprev m hkm
       have hgp2 := (S.good_iff _).1 hgp
       simp only at hgp2
       have hml : m < xs.length := by omega
       have hwm : IntKind.i64.wrap ((k : Int) - 1) = (m : Int) := by simp [IntKind.wrap, IntKind.bits, IntKind.signed]; omega
       have hws : IntKind.i32.wrap (s1 - p2) = s1 - p2 := by simp [IntKind.wrap, IntKind.bits, IntKind.signed]; omega
       have hk0 : 0 < k := by omega
       have hPM := hide hpm
       have hPL := hide hpl
       clear hprev hkm hpm hpl hz
       by_cases hlt2 : s1 - p2 < 2
       · go_wp2_with fail
         have cp2 : wr.drew.cell? ⟨b, off + m * 2 + 1, none⟩ = some (.int .i32 p2) := cp2'
         obtain ⟨wa, hwa⟩ : ∃ wa, wa = wr.drew := ⟨_, rfl⟩
         have hBa : Below w.heap.size w wa := by rw [hwa]; exact hB.drew
         have cx1 : wa.cell? ⟨b, off + k * 2, none⟩ = some (.int .i32 s1) := by rw [hwa]; exact hd1
         have cx2 : wa.cell? ⟨b, off + k * 2 + 1, none⟩ = some (.int .i32 s2) := by rw [hwa]; exact hd2
         have hbl : b < wa.heap.size := cell_lt cx1
         refine Reg.start (B := wa.heap.size) (by kernel_rfl) ?_
         rw [← hwa]
         rw [← hwa] at cp2
         refine Reg.take (fun _ _ _ _ _ h => h) 0 _ 10 (.slice (some ⟨b, off, none⟩) xs.length ca) rfl (by kernel_rfl) (by kernel_rfl) (by kernel_rfl) rfl (by kernel_rfl) (by kernel_rfl) (fun _ _ => by kernel_rfl) ?_
         refine Reg.take (fun _ _ _ _ _ h => h) 1 _ 11 (.int .i64 (k : Int)) rfl (by kernel_rfl) (by kernel_rfl) (by kernel_rfl) rfl (by kernel_rfl) (by kernel_rfl) (fun _ _ => by kernel_rfl) ?_
         refine Reg.take (fun _ _ _ _ _ h => h) 2 _ 12 (.pointer (some ⟨b, off + k * 2, none⟩)) rfl (by kernel_rfl) (by kernel_rfl) (by kernel_rfl) rfl (by kernel_rfl) (by kernel_rfl) (fun wx _ => Reg.ix (len := xs.length) (cap := ca) (q := .i64) rfl (by kernel_rfl) (by kernel_rfl) hlt Tryz.underlying23 (elemSize23 wx)) ?_
         refine Reg.take (fun _ _ _ _ _ h => h) 3 _ 13 (.agg #[.int .i32 s1, .int .i32 s2]) rfl (by kernel_rfl) (by kernel_rfl) (by kernel_rfl) rfl (by kernel_rfl) (by kernel_rfl) (fun wx hx => Reg.ld (cs := [.int .i32 s1, .int .i32 s2]) rfl (by kernel_rfl) (range_two ((hx.cell hbl).trans cx1) ((hx.cell hbl).trans cx2)) Tryz.underlying102 rfl (by kernel_rfl)) ?_
         refine Reg.call 4 _ 14 91 _ _ #[.agg #[.int .i32 s1, .int .i32 s2]] rfl (by kernel_rfl) rfl (by kernel_rfl) (by kernel_rfl) rfl (by kernel_rfl) (by kernel_rfl) (hgood wa) ?_
         rintro e w14 ⟨rfl, hb14⟩
         refine ⟨_, w14.heap.size, rfl, hb14.size, hb14, ?_⟩
         refine Reg.take (fun _ _ _ _ _ h => h) 5 _ 15 (.bool false) rfl (by kernel_rfl) (by kernel_rfl) (by kernel_rfl) rfl (by kernel_rfl) (by kernel_rfl) (fun _ _ => by kernel_rfl) ?_
         refine Reg.take (fun _ _ _ _ _ h => h) 6 _ 16 (.bool false) rfl (by kernel_rfl) (by kernel_rfl) (by kernel_rfl) rfl (by kernel_rfl) (by kernel_rfl) (fun _ _ => by kernel_rfl) ?_
         refine Reg.take (fun _ _ _ _ _ h => h) 7 _ 17 (.int .i64 (k : Int)) rfl (by kernel_rfl) (by kernel_rfl) (by kernel_rfl) rfl (by kernel_rfl) (by kernel_rfl) (fun _ _ => by kernel_rfl) ?_
         refine Reg.take (fun _ _ _ _ _ h => h) 8 _ 18 (.bool true) rfl (by kernel_rfl) (by kernel_rfl) (by kernel_rfl) rfl (by kernel_rfl) (by kernel_rfl) (fun _ _ => Reg.gtr (k := .i64) (m := (k : Int)) (n := 0) rfl (by kernel_rfl) (by kernel_rfl) (by simp; omega)) ?_
         refine Reg.take (fun _ _ _ _ _ h => h) 9 _ 19 (.bool true) rfl (by kernel_rfl) (by kernel_rfl) (by kernel_rfl) rfl (by kernel_rfl) (by kernel_rfl) (fun _ _ => by kernel_rfl) ?_
         refine Reg.take (fun _ _ _ _ _ h => h) 10 _ 20 (.slice (some ⟨b, off, none⟩) xs.length ca) rfl (by kernel_rfl) (by kernel_rfl) (by kernel_rfl) rfl (by kernel_rfl) (by kernel_rfl) (fun _ _ => by kernel_rfl) ?_
         refine Reg.take (fun _ _ _ _ _ h => h) 11 _ 21 (.int .i64 (k : Int)) rfl (by kernel_rfl) (by kernel_rfl) (by kernel_rfl) rfl (by kernel_rfl) (by kernel_rfl) (fun _ _ => by kernel_rfl) ?_
         refine Reg.take (fun _ _ _ _ _ h => h) 12 _ 22 (.pointer (some ⟨b, off + k * 2, none⟩)) rfl (by kernel_rfl) (by kernel_rfl) (by kernel_rfl) rfl (by kernel_rfl) (by kernel_rfl) (fun wx _ => Reg.ix (len := xs.length) (cap := ca) (q := .i64) rfl (by kernel_rfl) (by kernel_rfl) hlt Tryz.underlying23 (elemSize23 wx)) ?_
         refine Reg.take (fun _ _ _ _ _ h => h) 13 _ 23 (.pointer (some ⟨b, off + k * 2, none⟩)) rfl (by kernel_rfl) (by kernel_rfl) (by kernel_rfl) rfl (by kernel_rfl) (by kernel_rfl) (fun _ _ => by kernel_rfl) ?_
         refine Reg.take (fun _ _ _ _ _ h => h) 14 _ 24 (.int .i32 s1) rfl (by kernel_rfl) (by kernel_rfl) (by kernel_rfl) rfl (by kernel_rfl) (by kernel_rfl) (fun wx hx => Reg.ld1 rfl (by kernel_rfl) ((hx.cell (Nat.lt_of_lt_of_le hbl hb14.size)).trans ((hb14.cell hbl).trans cx1)) (by kernel_rfl)) ?_
         refine Reg.take (fun _ _ _ _ _ h => h) 15 _ 25 (.slice (some ⟨b, off, none⟩) xs.length ca) rfl (by kernel_rfl) (by kernel_rfl) (by kernel_rfl) rfl (by kernel_rfl) (by kernel_rfl) (fun _ _ => by kernel_rfl) ?_
         refine Reg.take (fun _ _ _ _ _ h => h) 16 _ 26 (.int .i64 (k : Int)) rfl (by kernel_rfl) (by kernel_rfl) (by kernel_rfl) rfl (by kernel_rfl) (by kernel_rfl) (fun _ _ => by kernel_rfl) ?_
         refine Reg.take (fun _ _ _ _ _ h => h) 17 _ 27 (.int .i64 (m : Int)) rfl (by kernel_rfl) (by kernel_rfl) (by kernel_rfl) rfl (by kernel_rfl) (by kernel_rfl) (fun _ _ => Reg.subI (k := .i64) (m := (k : Int)) (n := 1) rfl (by kernel_rfl) (by kernel_rfl) hwm) ?_
         refine Reg.take (fun _ _ _ _ _ h => h) 18 _ 28 (.pointer (some ⟨b, off + m * 2, none⟩)) rfl (by kernel_rfl) (by kernel_rfl) (by kernel_rfl) rfl (by kernel_rfl) (by kernel_rfl) (fun wx _ => Reg.ix (len := xs.length) (cap := ca) (q := .i64) rfl (by kernel_rfl) (by kernel_rfl) hml Tryz.underlying23 (elemSize23 wx)) ?_
         refine Reg.take (fun _ _ _ _ _ h => h) 19 _ 29 (.pointer (some ⟨b, off + m * 2 + 1, none⟩)) rfl (by kernel_rfl) (by kernel_rfl) (by kernel_rfl) rfl (by kernel_rfl) (by kernel_rfl) (fun _ _ => by kernel_rfl) ?_
         refine Reg.take (fun _ _ _ _ _ h => h) 20 _ 30 (.int .i32 p2) rfl (by kernel_rfl) (by kernel_rfl) (by kernel_rfl) rfl (by kernel_rfl) (by kernel_rfl) (fun wx hx => Reg.ld1 rfl (by kernel_rfl) ((hx.cell (Nat.lt_of_lt_of_le hbl hb14.size)).trans ((hb14.cell hbl).trans cp2)) (by kernel_rfl)) ?_
         refine Reg.take (fun _ _ _ _ _ h => h) 21 _ 31 (.int .i32 (s1 - p2)) rfl (by kernel_rfl) (by kernel_rfl) (by kernel_rfl) rfl (by kernel_rfl) (by kernel_rfl) (fun _ _ => Reg.subI (k := .i32) (m := s1) (n := p2) rfl (by kernel_rfl) (by kernel_rfl) hws) ?_
         refine Reg.take (fun _ _ _ _ _ h => h) 22 _ 32 (.bool true) rfl (by kernel_rfl) (by kernel_rfl) (by kernel_rfl) rfl (by kernel_rfl) (by kernel_rfl) (fun _ _ => Reg.lss (k := .i32) (m := s1 - p2) (n := 2) rfl (by kernel_rfl) (by kernel_rfl) (by simp; omega)) ?_
         refine Reg.take (fun _ _ _ _ _ h => h) 23 _ 33 (.bool true) rfl (by kernel_rfl) (by kernel_rfl) (by kernel_rfl) rfl (by kernel_rfl) (by kernel_rfl) (fun _ _ => by kernel_rfl) ?_
         refine Reg.take (fun _ _ _ _ _ h => h) 24 _ 34 (.bool true) rfl (by kernel_rfl) (by kernel_rfl) (by kernel_rfl) rfl (by kernel_rfl) (by kernel_rfl) (fun _ _ => by kernel_rfl) ?_
         refine Reg.done_at (by kernel_rfl) { tmps := #[.slice (some ⟨b, off, none⟩) xs.length ca, undef, u2, .int .i64 (k : Int), .int .i64 (k : Int), .slice (some ⟨b, off, none⟩) xs.length ca, .int .i64 (xs.length : Int), .bool true, u8, u9, .slice (some ⟨b, off, none⟩) xs.length ca, .int .i64 (k : Int), .pointer (some ⟨b, off + k * 2, none⟩), .agg #[.int .i32 s1, .int .i32 s2], .bool true, .bool false, .bool false, .int .i64 (k : Int), .bool true, .bool true, .slice (some ⟨b, off, none⟩) xs.length ca, .int .i64 (k : Int), .pointer (some ⟨b, off + k * 2, none⟩), .pointer (some ⟨b, off + k * 2, none⟩), .int .i32 s1, .slice (some ⟨b, off, none⟩) xs.length ca, .int .i64 (k : Int), .int .i64 (m : Int), .pointer (some ⟨b, off + m * 2, none⟩), .pointer (some ⟨b, off + m * 2 + 1, none⟩), .int .i32 p2, .int .i32 (s1 - p2), .bool true, .bool true, .bool true], defers := [] } (by kernel_rfl) ?_
         have hB3 := nx hBa hb14
         have HN : Hid (¬ S.Canon xs) := fun hc => by
           have e : xs = xs.take (k + 1) ++ xs.drop (k + 1) := (List.take_append_drop _ _).symm
           rw [e, HT.out] at hc
           have h1 := (S.canon_append.1 hc).1
           have := (S.canon_append.1 h1).2.2 _ hPM.out (s1, s2) (by simp)
           simp only at this
           omega
         clear hC cx1 cx2 hd1 hd2 hgood hwa cp2 cp2'
         go_wp2
         go_ret
         exact ⟨told_no HN.out, hB3⟩
       · go_wp2_with fail
         have cp2 : wr.drew.cell? ⟨b, off + m * 2 + 1, none⟩ = some (.int .i32 p2) := cp2'
         obtain ⟨wa, hwa⟩ : ∃ wa, wa = wr.drew := ⟨_, rfl⟩
         have hBa : Below w.heap.size w wa := by rw [hwa]; exact hB.drew
         have cx1 : wa.cell? ⟨b, off + k * 2, none⟩ = some (.int .i32 s1) := by rw [hwa]; exact hd1
         have cx2 : wa.cell? ⟨b, off + k * 2 + 1, none⟩ = some (.int .i32 s2) := by rw [hwa]; exact hd2
         have hbl : b < wa.heap.size := cell_lt cx1
         refine Reg.start (B := wa.heap.size) (by kernel_rfl) ?_
         rw [← hwa]
         rw [← hwa] at cp2
         refine Reg.take (fun _ _ _ _ _ h => h) 0 _ 10 (.slice (some ⟨b, off, none⟩) xs.length ca) rfl (by kernel_rfl) (by kernel_rfl) (by kernel_rfl) rfl (by kernel_rfl) (by kernel_rfl) (fun _ _ => by kernel_rfl) ?_
         refine Reg.take (fun _ _ _ _ _ h => h) 1 _ 11 (.int .i64 (k : Int)) rfl (by kernel_rfl) (by kernel_rfl) (by kernel_rfl) rfl (by kernel_rfl) (by kernel_rfl) (fun _ _ => by kernel_rfl) ?_
         refine Reg.take (fun _ _ _ _ _ h => h) 2 _ 12 (.pointer (some ⟨b, off + k * 2, none⟩)) rfl (by kernel_rfl) (by kernel_rfl) (by kernel_rfl) rfl (by kernel_rfl) (by kernel_rfl) (fun wx _ => Reg.ix (len := xs.length) (cap := ca) (q := .i64) rfl (by kernel_rfl) (by kernel_rfl) hlt Tryz.underlying23 (elemSize23 wx)) ?_
         refine Reg.take (fun _ _ _ _ _ h => h) 3 _ 13 (.agg #[.int .i32 s1, .int .i32 s2]) rfl (by kernel_rfl) (by kernel_rfl) (by kernel_rfl) rfl (by kernel_rfl) (by kernel_rfl) (fun wx hx => Reg.ld (cs := [.int .i32 s1, .int .i32 s2]) rfl (by kernel_rfl) (range_two ((hx.cell hbl).trans cx1) ((hx.cell hbl).trans cx2)) Tryz.underlying102 rfl (by kernel_rfl)) ?_
         refine Reg.call 4 _ 14 91 _ _ #[.agg #[.int .i32 s1, .int .i32 s2]] rfl (by kernel_rfl) rfl (by kernel_rfl) (by kernel_rfl) rfl (by kernel_rfl) (by kernel_rfl) (hgood wa) ?_
         rintro e w14 ⟨rfl, hb14⟩
         refine ⟨_, w14.heap.size, rfl, hb14.size, hb14, ?_⟩
         refine Reg.take (fun _ _ _ _ _ h => h) 5 _ 15 (.bool false) rfl (by kernel_rfl) (by kernel_rfl) (by kernel_rfl) rfl (by kernel_rfl) (by kernel_rfl) (fun _ _ => by kernel_rfl) ?_
         refine Reg.take (fun _ _ _ _ _ h => h) 6 _ 16 (.bool false) rfl (by kernel_rfl) (by kernel_rfl) (by kernel_rfl) rfl (by kernel_rfl) (by kernel_rfl) (fun _ _ => by kernel_rfl) ?_
         refine Reg.take (fun _ _ _ _ _ h => h) 7 _ 17 (.int .i64 (k : Int)) rfl (by kernel_rfl) (by kernel_rfl) (by kernel_rfl) rfl (by kernel_rfl) (by kernel_rfl) (fun _ _ => by kernel_rfl) ?_
         refine Reg.take (fun _ _ _ _ _ h => h) 8 _ 18 (.bool true) rfl (by kernel_rfl) (by kernel_rfl) (by kernel_rfl) rfl (by kernel_rfl) (by kernel_rfl) (fun _ _ => Reg.gtr (k := .i64) (m := (k : Int)) (n := 0) rfl (by kernel_rfl) (by kernel_rfl) (by simp; omega)) ?_
         refine Reg.take (fun _ _ _ _ _ h => h) 9 _ 19 (.bool true) rfl (by kernel_rfl) (by kernel_rfl) (by kernel_rfl) rfl (by kernel_rfl) (by kernel_rfl) (fun _ _ => by kernel_rfl) ?_
         refine Reg.take (fun _ _ _ _ _ h => h) 10 _ 20 (.slice (some ⟨b, off, none⟩) xs.length ca) rfl (by kernel_rfl) (by kernel_rfl) (by kernel_rfl) rfl (by kernel_rfl) (by kernel_rfl) (fun _ _ => by kernel_rfl) ?_
         refine Reg.take (fun _ _ _ _ _ h => h) 11 _ 21 (.int .i64 (k : Int)) rfl (by kernel_rfl) (by kernel_rfl) (by kernel_rfl) rfl (by kernel_rfl) (by kernel_rfl) (fun _ _ => by kernel_rfl) ?_
         refine Reg.take (fun _ _ _ _ _ h => h) 12 _ 22 (.pointer (some ⟨b, off + k * 2, none⟩)) rfl (by kernel_rfl) (by kernel_rfl) (by kernel_rfl) rfl (by kernel_rfl) (by kernel_rfl) (fun wx _ => Reg.ix (len := xs.length) (cap := ca) (q := .i64) rfl (by kernel_rfl) (by kernel_rfl) hlt Tryz.underlying23 (elemSize23 wx)) ?_
         refine Reg.take (fun _ _ _ _ _ h => h) 13 _ 23 (.pointer (some ⟨b, off + k * 2, none⟩)) rfl (by kernel_rfl) (by kernel_rfl) (by kernel_rfl) rfl (by kernel_rfl) (by kernel_rfl) (fun _ _ => by kernel_rfl) ?_
         refine Reg.take (fun _ _ _ _ _ h => h) 14 _ 24 (.int .i32 s1) rfl (by kernel_rfl) (by kernel_rfl) (by kernel_rfl) rfl (by kernel_rfl) (by kernel_rfl) (fun wx hx => Reg.ld1 rfl (by kernel_rfl) ((hx.cell (Nat.lt_of_lt_of_le hbl hb14.size)).trans ((hb14.cell hbl).trans cx1)) (by kernel_rfl)) ?_
         refine Reg.take (fun _ _ _ _ _ h => h) 15 _ 25 (.slice (some ⟨b, off, none⟩) xs.length ca) rfl (by kernel_rfl) (by kernel_rfl) (by kernel_rfl) rfl (by kernel_rfl) (by kernel_rfl) (fun _ _ => by kernel_rfl) ?_
         refine Reg.take (fun _ _ _ _ _ h => h) 16 _ 26 (.int .i64 (k : Int)) rfl (by kernel_rfl) (by kernel_rfl) (by kernel_rfl) rfl (by kernel_rfl) (by kernel_rfl) (fun _ _ => by kernel_rfl) ?_
         refine Reg.take (fun _ _ _ _ _ h => h) 17 _ 27 (.int .i64 (m : Int)) rfl (by kernel_rfl) (by kernel_rfl) (by kernel_rfl) rfl (by kernel_rfl) (by kernel_rfl) (fun _ _ => Reg.subI (k := .i64) (m := (k : Int)) (n := 1) rfl (by kernel_rfl) (by kernel_rfl) hwm) ?_
         refine Reg.take (fun _ _ _ _ _ h => h) 18 _ 28 (.pointer (some ⟨b, off + m * 2, none⟩)) rfl (by kernel_rfl) (by kernel_rfl) (by kernel_rfl) rfl (by kernel_rfl) (by kernel_rfl) (fun wx _ => Reg.ix (len := xs.length) (cap := ca) (q := .i64) rfl (by kernel_rfl) (by kernel_rfl) hml Tryz.underlying23 (elemSize23 wx)) ?_
         refine Reg.take (fun _ _ _ _ _ h => h) 19 _ 29 (.pointer (some ⟨b, off + m * 2 + 1, none⟩)) rfl (by kernel_rfl) (by kernel_rfl) (by kernel_rfl) rfl (by kernel_rfl) (by kernel_rfl) (fun _ _ => by kernel_rfl) ?_
         refine Reg.take (fun _ _ _ _ _ h => h) 20 _ 30 (.int .i32 p2) rfl (by kernel_rfl) (by kernel_rfl) (by kernel_rfl) rfl (by kernel_rfl) (by kernel_rfl) (fun wx hx => Reg.ld1 rfl (by kernel_rfl) ((hx.cell (Nat.lt_of_lt_of_le hbl hb14.size)).trans ((hb14.cell hbl).trans cp2)) (by kernel_rfl)) ?_
         refine Reg.take (fun _ _ _ _ _ h => h) 21 _ 31 (.int .i32 (s1 - p2)) rfl (by kernel_rfl) (by kernel_rfl) (by kernel_rfl) rfl (by kernel_rfl) (by kernel_rfl) (fun _ _ => Reg.subI (k := .i32) (m := s1) (n := p2) rfl (by kernel_rfl) (by kernel_rfl) hws) ?_
         refine Reg.take (fun _ _ _ _ _ h => h) 22 _ 32 (.bool false) rfl (by kernel_rfl) (by kernel_rfl) (by kernel_rfl) rfl (by kernel_rfl) (by kernel_rfl) (fun _ _ => Reg.lss (k := .i32) (m := s1 - p2) (n := 2) rfl (by kernel_rfl) (by kernel_rfl) (by simp; omega)) ?_
         refine Reg.take (fun _ _ _ _ _ h => h) 23 _ 33 (.bool false) rfl (by kernel_rfl) (by kernel_rfl) (by kernel_rfl) rfl (by kernel_rfl) (by kernel_rfl) (fun _ _ => by kernel_rfl) ?_
         refine Reg.take (fun _ _ _ _ _ h => h) 24 _ 34 (.bool false) rfl (by kernel_rfl) (by kernel_rfl) (by kernel_rfl) rfl (by kernel_rfl) (by kernel_rfl) (fun _ _ => by kernel_rfl) ?_
         refine Reg.done_at (by kernel_rfl) { tmps := #[.slice (some ⟨b, off, none⟩) xs.length ca, undef, u2, .int .i64 (k : Int), .int .i64 (k : Int), .slice (some ⟨b, off, none⟩) xs.length ca, .int .i64 (xs.length : Int), .bool true, u8, u9, .slice (some ⟨b, off, none⟩) xs.length ca, .int .i64 (k : Int), .pointer (some ⟨b, off + k * 2, none⟩), .agg #[.int .i32 s1, .int .i32 s2], .bool true, .bool false, .bool false, .int .i64 (k : Int), .bool true, .bool true, .slice (some ⟨b, off, none⟩) xs.length ca, .int .i64 (k : Int), .pointer (some ⟨b, off + k * 2, none⟩), .pointer (some ⟨b, off + k * 2, none⟩), .int .i32 s1, .slice (some ⟨b, off, none⟩) xs.length ca, .int .i64 (k : Int), .int .i64 (m : Int), .pointer (some ⟨b, off + m * 2, none⟩), .pointer (some ⟨b, off + m * 2 + 1, none⟩), .int .i32 p2, .int .i32 (s1 - p2), .bool false, .bool false, .bool false], defers := [] } (by kernel_rfl) ?_
         have hB3 := nx hBa hb14
         have HC : Hid (S.Canon (xs.take (k + 1))) := by
           show S.Canon _
           rw [HT.out]
           refine S.canon_append.2 ⟨hC, S.canon_one HX.out, fun x hx y hy => ?_⟩
           obtain rfl : y = (s1, s2) := by simpa using hy
           have := hPL.out x hx
           simp only
           omega
         clear hC cx1 cx2 hd1 hd2 hgood hwa cp2 cp2'
         go_wp2
         go_roundw
         case rel => exact ⟨k + 1, by go_num, by omega, HC.out, hB3⟩
         case measure => simp [intOf]; omega
   · obtain rfl : k = xs.length := by omega
     rw [List.take_length] at hC
     have HC := hide hC
     clear hC
     go_wp2
     go_ret
     exact ⟨told_yes HC.out, hB⟩
end Go.Proofs.YtemanednddhfaaaGreatDoor.U
namespace Go.Proofs.YtemanednddhfaaaGreatDoor
open Go.RowKit Go.Shelf
open E (T)
attribute [local go_sem] Oper.semAt_some
namespace E
def nameR (l : List UInt8) : Bool := decide (l.head?.map X.isL = some true) && (decide (l.length ≤ 20) && l.all X.isLD)
theorem nameP_all {n : List UInt8} (h : nameP n = true) : n.head?.map X.isL = some true ∧ n.takeWhile X.isLD = n ∧ n.length ≤ 20 := by
 unfold nameP at h
 rw [Bool.and_eq_true, decide_eq_true_eq] at h
 obtain ⟨h20, h⟩ := h
 by_cases hc : (n.head?.map X.isL) = some true ∧ (n.takeWhile X.isLD).length ≤ 20
 · have hn : X.nextL (36 :: n) = some (⟨1, n.takeWhile X.isLD, 0⟩, 1 + (n.takeWhile X.isLD).length) := by
     unfold X.nextL
     simp only
     rw [if_neg (by decide), if_pos trivial, if_pos hc]
   rw [X.scan_some 0 n (by decide) (by decide) hn] at h
   cases hs : X.scan (0 + (1 + (n.takeWhile X.isLD).length)) ((36 :: n).drop (1 + (n.takeWhile X.isLD).length)) with
   | error e => rw [hs] at h; simp [Except.map] at h
   | ok l =>
     rw [hs] at h
     simp only [Except.map, Bool.and_eq_true, beq_iff_eq] at h
     exact ⟨hc.1, h.2, h20⟩
 · have hn : X.nextL (36 :: n) = none := by
     unfold X.nextL
     simp only
     rw [if_neg (by decide), if_pos trivial, if_neg hc]
   rw [X.scan_none 0 n (by decide) (by decide) hn] at h
   simp at h
theorem nameR_eq (n : List UInt8) : nameR n = nameP n := by
 rw [Bool.eq_iff_iff]
 constructor
 · intro h
   unfold nameR at h
   simp only [Bool.and_eq_true, decide_eq_true_eq, List.all_eq_true] at h
   obtain ⟨h1, h2, h3⟩ := h
   have htw : n.takeWhile X.isLD = n := by have := X.tw_id (p := X.isLD) (d := n) h3 [] (.inl rfl); simpa using this
   have hn : X.nextL (36 :: n) = some (⟨1, n, 0⟩, 1 + n.length) := by
     unfold X.nextL
     simp only
     rw [if_neg (by decide), if_pos trivial, if_pos ⟨h1, by rw [htw]; exact h2⟩, htw]
   unfold nameP
   rw [X.scan_some 0 n (by decide) (by decide) hn]
   have hd : (36 :: n).drop (1 + n.length) = [] := by rw [List.drop_eq_nil_iff]; simp; omega
   rw [hd, X.scan_nil]
   simp [Except.map, h2]
 · intro h
   obtain ⟨h1, h2, h3⟩ := nameP_all h
   unfold nameR
   simp only [Bool.and_eq_true, decide_eq_true_eq, List.all_eq_true]
   refine ⟨h1, h3, fun c hc => ?_⟩
   rw [← h2] at hc
   exact List.all_eq_true.1 (List.all_takeWhile (p := X.isLD) (l := n)) c hc
def Okk (t : T) : Prop := ∀ p ∈ pre t t, NodeOk p.1
theorem okk_eq (t : T) : Okk t ↔ NodeOk t ∧ ∀ x ∈ t.kids, Okk x := by
 unfold Okk
 rw [pre_self]
 constructor
 · intro h
   exact ⟨h _ List.mem_cons_self, fun x hx p hp => h p (List.mem_cons_of_mem _ (List.mem_flatMap.2 ⟨x, hx, hp⟩))⟩
 · rintro ⟨h1, h2⟩ p hp
   rw [List.mem_cons] at hp
   rcases hp with rfl | hp
   · exact h1
   · obtain ⟨x, hx, hp⟩ := List.mem_flatMap.1 hp
     exact h2 x hx p hp
end E
set_option maxRecDepth 100000 in
set_option maxHeartbeats 1000000 in
theorem nameR_any (s : ByteArray) (hs : s.size ≤ 9223372036854775807) (w : World) : Calls Tryz.prog 98 #[.string s] w fun e w' => e = .returned (.bool (E.nameR (bts s))) ∧ w' = w := by
 by_cases h0 : s.size = 0
 · have HE : Hid (E.nameR (bts s) = false) := hide (by
     have : bts s = [] := List.eq_nil_of_length_eq_zero h0
     rw [this]; rfl)
   have e1 : decide ((s.size : Int) < 1) = true := decide_eq_true (by omega)
   have e0 : decide (s.size = 0) = true := decide_eq_true h0
   have e2 : decide (s.size < 1) = true := decide_eq_true (by omega)
   clear h0
   go_enter Tryz.func98, Tryz.ntmps98
   go_wp2
   go_ret
   exact ⟨by rw [HE.out]; rfl, rfl⟩
 · have e1 : decide ((s.size : Int) < 1) = false := decide_eq_false (by omega)
   have e0 : decide (s.size = 0) = false := decide_eq_false h0
   have e2 : decide (s.size < 1) = false := decide_eq_false (by omega)
   by_cases h20 : s.size ≤ 20
   · have e3 : decide ((20 : Int) < (s.size : Int)) = false := decide_eq_false (by omega)
     have e4 : decide (20 < s.size) = false := decide_eq_false (by omega)
     have hl0 : 0 < (bts s).length := by rw [bts_len]; omega
     have hx0 : ∀ h, s[0]'h = (bts s)[0]'hl0 := fun h => idx_at (s := s) hl0 0 rfl h
     have HH : Hid ((bts s).head?.map X.isL = some (X.isL (bts s)[0])) := hide (by rw [List.head?_eq_getElem?, List.getElem?_eq_getElem hl0]; rfl)
     have H20 : Hid ((bts s).length ≤ 20) := hide h20
     have hs2 : s.size ≤ 20 := h20
     clear h20
     generalize (bts s)[0] = c0 at *
     have hL0 := letterR_any c0 w
     cases hd0 : X.isL c0 with
     | false =>
       rw [hd0] at hL0
       have HE : Hid (E.nameR (bts s) = false) := hide (by unfold E.nameR; rw [HH.out, hd0]; rfl)
       clear HH h0
       go_enter Tryz.func98, Tryz.ntmps98
       go_wp2_with fail
       with_reducible refine hL0.mono ?_
       rintro e w1 ⟨rfl, rfl⟩
       go_wp2
       go_ret
       exact ⟨by rw [HE.out]; rfl, rfl⟩
     | true =>
       rw [hd0] at hL0
       have HE : Hid (E.nameR (bts s) = (bts s).all X.isLD) := hide (by unfold E.nameR; rw [HH.out, hd0, decide_eq_true H20.out]; rfl)
       clear HH h0
       go_enter Tryz.func98, Tryz.ntmps98
       go_wp2_with fail
       with_reducible refine hL0.mono ?_
       rintro e w1 ⟨rfl, rfl⟩
       clear hL0 hx0 hd0 e1 e2 e3 e4
       go_wp2
       go_loopw [3] (fun u wr => ∃ n : Nat, u = .int .i64 (n : Int) ∧ n ≤ s.size ∧ Hid (∀ c ∈ (bts s).take n, X.isLD c = true) ∧ wr = w1) (fun u _ => s.size - (intOf u).toNat)
       case atStart => exact ⟨0, rfl, by omega, hide (fun c hc => by simp at hc), by first | rfl | trivial⟩
       case round =>
         obtain ⟨n, rfl, hn, HA, rfl⟩ := hrel
         by_cases hlt : n < s.size
         · have hl : n < (bts s).length := hlt
           have hx : ∀ h, s[n]'h = (bts s)[n]'hl := fun h => idx_at (s := s) hl (n : Int) rfl h
           have HT := hide (take_snoc0 hl)
           have HN : Hid (X.isLD (bts s)[n] = false → (bts s).all X.isLD = false) := hide (fun h => by
             rw [List.all_eq_false]
             exact ⟨_, List.getElem_mem hl, by simp [h]⟩)
           generalize (bts s)[n] = c at *
           have hL := letterR_any c wr
           have hD := digitR_any c wr
           cases hd : X.isL c with
           | true =>
             rw [hd] at hL
             have HR : Hid (X.isLD c = true) := hide (by unfold X.isLD; rw [hd]; rfl)
             clear hd HN hD
             go_wp2_with fail
             with_reducible refine hL.mono ?_
             rintro e w1 ⟨rfl, rfl⟩
             go_wp2
             go_roundw
             case rel => exact ⟨n + 1, by go_num, by omega, hide (fun x hx => by rw [HT.out] at hx; exact (List.mem_append.1 hx).elim (HA.out x) (fun h => by simp at h; rw [h]; exact HR.out)), by first | rfl | trivial⟩
             case measure => simp [intOf]; omega
           | false =>
             rw [hd] at hL
             cases hdd : X.isD c with
             | true =>
               rw [hdd] at hD
               have HR : Hid (X.isLD c = true) := hide (by unfold X.isLD; rw [hdd]; simp)
               clear hd hdd HN
               go_wp2_with fail
               with_reducible refine hL.mono ?_
               rintro e w1 ⟨rfl, rfl⟩
               go_wp2_with fail
               with_reducible refine hD.mono ?_
               rintro e w2 ⟨rfl, rfl⟩
               go_wp2
               go_roundw
               case rel => exact ⟨n + 1, by go_num, by omega, hide (fun x hx => by rw [HT.out] at hx; exact (List.mem_append.1 hx).elim (HA.out x) (fun h => by simp at h; rw [h]; exact HR.out)), by first | rfl | trivial⟩
               case measure => simp [intOf]; omega
             | false =>
               rw [hdd] at hD
               have HR : Hid (E.nameR (bts s) = false) := hide (by rw [HE.out]; exact HN.out (by unfold X.isLD; rw [hd, hdd]; rfl))
               clear hd hdd HN HE HA HT
               go_wp2_with fail
               with_reducible refine hL.mono ?_
               rintro e w1 ⟨rfl, rfl⟩
               go_wp2_with fail
               with_reducible refine hD.mono ?_
               rintro e w2 ⟨rfl, rfl⟩
               go_wp2
               go_ret
               exact ⟨by rw [HR.out]; rfl, rfl⟩
         · have HR : Hid (E.nameR (bts s) = true) := hide (by
             rw [HE.out, List.all_eq_true]
             intro c hc
             refine HA.out c ?_
             rw [List.take_of_length_le (by rw [bts_len]; omega)]
             exact hc)
           clear HE HA
           go_wp2
           go_ret
           exact ⟨by rw [HR.out]; rfl, rfl⟩
   · have e3 : decide ((20 : Int) < (s.size : Int)) = true := decide_eq_true (by omega)
     have e4 : decide (20 < s.size) = true := decide_eq_true (by omega)
     have HE : Hid (E.nameR (bts s) = false) := hide (by
       unfold E.nameR
       rw [decide_eq_false (show ¬ (bts s).length ≤ 20 by rw [bts_len]; exact h20)]
       simp)
     clear h20 h0
     go_enter Tryz.func98, Tryz.ntmps98
     go_wp2
     go_ret
     exact ⟨by rw [HE.out]; rfl, rfl⟩
end Go.Proofs.YtemanednddhfaaaGreatDoor
namespace Go.Proofs.YtemanednddhfaaaGreatDoor
open Go.RowKit Go.Shelf
open E (T)
attribute [local go_sem] Oper.semAt_some
theorem KR.get {w : World} {ok : Nat → Prop} {kp : Option Addr} : ∀ (ts : List T) (j : Nat), KR w ok ts kp j → ∀ i (h : i < ts.length), ∃ b off v, kp = some ⟨b, off, none⟩ ∧ TR w ok ts[i] v ∧ Cells5 w b (off + (j + i) * 5) v
 | t :: ts, j, h, 0, _ => by
   rw [KR] at h
   obtain ⟨⟨b, off, v, e, _, h2, h3⟩, _⟩ := h
   exact ⟨b, off, v, e, h2, h3⟩
 | t :: ts, j, h, i + 1, hi => by
   rw [KR] at h
   obtain ⟨b, off, v, e, h2, h3⟩ := KR.get ts (j + 1) h.2 i (by simpa using hi)
   exact ⟨b, off, v, e, h2, by rw [show j + (i + 1) = j + 1 + i by omega]; exact h3⟩
theorem TR.ndD {w : World} {ok : Nat → Prop} {t : T} {v : Value} (h : TR w ok t v) : ∃ d : ND, v = d.v := by
 obtain ⟨d, e, _⟩ := h.nd
 exact ⟨d, e⟩
theorem okk_no {t : T} (h : ¬ E.NodeOk t) : ¬ E.Okk t := fun h' => h ((E.okk_eq t).1 h').1
theorem ok1 {a : Int} {s : E.Rs} {nm : List UInt8} {ks : List T} : E.NodeOk (.mk 1 a s nm ks) ↔ ks.length = 0 ∧ (s.length ≤ 200 ∧ U.S.Canon s) ∧ nm = [] := by
 unfold E.NodeOk
 simp only [E.T.kids, E.T.kind, E.T.name, E.T.set]
 rw [show E.kidsOf 1 = 0 from rfl]
 constructor
 · rintro ⟨h1, ⟨_, h2, h3, h4⟩ | ⟨h, _⟩ | ⟨h, _⟩⟩
   · exact ⟨by omega, ⟨h3, h4⟩, h2⟩
   · omega
   · omega
 · rintro ⟨h1, ⟨h3, h4⟩, h2⟩
   exact ⟨by omega, .inl ⟨trivial, h2, h3, h4⟩⟩
theorem ok2 {a : Int} {s : E.Rs} {nm : List UInt8} {ks : List T} : E.NodeOk (.mk 2 a s nm ks) ↔ ks.length = 0 ∧ s = [] ∧ E.nameP nm = true := by
 unfold E.NodeOk
 simp only [E.T.kids, E.T.kind, E.T.name, E.T.set]
 rw [show E.kidsOf 2 = 0 from rfl]
 constructor
 · rintro ⟨h1, ⟨h, _⟩ | ⟨_, h2, h3⟩ | ⟨h, _⟩⟩
   · omega
   · exact ⟨by omega, h2, h3⟩
   · omega
 · rintro ⟨h1, h2, h3⟩
   exact ⟨by omega, .inr (.inl ⟨trivial, h2, h3⟩)⟩
theorem okK {k a : Int} {s : E.Rs} {nm : List UInt8} {ks : List T} (K : Nat) (hk : E.kidsOf k = (K : Int)) (h3 : 3 ≤ k) (h8 : k ≤ 8) : E.NodeOk (.mk k a s nm ks) ↔ ks.length = K ∧ s = [] ∧ nm = [] := by
 unfold E.NodeOk
 simp only [E.T.kids, E.T.kind, E.T.name, E.T.set]
 rw [hk]
 constructor
 · rintro ⟨h1, ⟨h, _⟩ | ⟨h, _⟩ | ⟨_, _, h4, h5⟩⟩
   · omega
   · omega
   · exact ⟨by omega, h4, h5⟩
 · rintro ⟨h1, h2, h4⟩
   exact ⟨by omega, .inr (.inr ⟨h3, h8, h2, h4⟩)⟩
theorem okN {k a : Int} {s : E.Rs} {nm : List UInt8} {ks : List T} (h : ¬ (1 ≤ k ∧ k ≤ 8)) : ¬ E.NodeOk (.mk k a s nm ks) := by
 unfold E.NodeOk
 simp only [E.T.kids, E.T.kind, E.T.name, E.T.set]
 rintro ⟨_, ⟨h, _⟩ | ⟨h, _⟩ | ⟨_, _, _⟩⟩ <;> omega
set_option maxRecDepth 100000 in
set_option maxHeartbeats 4000000 in
theorem form_step (k a : Int) (s : List U.S.R) (nm : List UInt8) (ks : List T) (hNB : E.NodeB (.mk k a s nm ks))
   (ih : ∀ t ∈ ks, ∀ (d : ND) (w : World), TR w (fun _ => True) t d.v → Calls Tryz.prog 63 #[d.v] w fun e w' => U.Told (E.Okk t) e ∧ Below w.heap.size w w')
   (d : ND) (w : World) (hd : TR w (fun _ => True) (.mk k a s nm ks) d.v) : Calls Tryz.prog 63 #[d.v] w fun e w' => U.Told (E.Okk (.mk k a s nm ks)) e ∧ Below w.heap.size w w' := by
 obtain ⟨hb1, hb2, hb3, hb4⟩ := hNB
 simp only [E.T.set, E.T.name, E.T.kids] at hb1 hb2 hb3 hb4
 rw [TR] at hd
 obtain ⟨sp, sc, kp, kc, e1, hrd, hk1, hkr1⟩ := hd
 rw [e1]
 clear e1
 have a1 := al1 w (.cells #[.int .i64 k, .int .i64 a, .slice sp s.length sc, .string ⟨nm.toArray⟩, .slice kp ks.length kc] 26)
 have n1 := heap_alloc_new w (.cells #[.int .i64 k, .int .i64 a, .slice sp s.length sc, .string ⟨nm.toArray⟩, .slice kp ks.length kc] 26)
 obtain ⟨X1, hX1⟩ : ∃ X1, w.alloc (.cells #[.int .i64 k, .int .i64 a, .slice sp s.length sc, .string ⟨nm.toArray⟩, .slice kp ks.length kc] 26) = X1 := ⟨_, rfl⟩
 rw [hX1] at a1 n1
 have hrd1 := hrd.later a1
 have hnz : (⟨nm.toArray⟩ : ByteArray).size = nm.length := by show nm.toArray.size = _; simp
 have hnmR : ∀ W, Calls Tryz.prog 98 #[.string ⟨nm.toArray⟩] W fun e w' => e = .returned (.bool (E.nameP nm)) ∧ w' = W := fun W => by
   have := nameR_any ⟨nm.toArray⟩ (by rw [hnz]; exact hb2) W
   rw [E.nameR_eq, show bts (⟨nm.toArray⟩ : ByteArray) = nm from rfl] at this
   exact this
 obtain ⟨c0, c1, c2, c3, c4⟩ := cells_five n1
 obtain ⟨sb, hsb⟩ : ∃ sb : Bool, (s.length == 0) = sb := ⟨_, rfl⟩
 obtain ⟨nb, hnb⟩ : ∃ nb : Bool, (nm == []) = nb := ⟨_, rfl⟩
 have es : ((s.length : Int) == 0) = sb := by rw [← hsb, Bool.eq_iff_iff]; simp
 have es2 : decide (s.length = 0) = sb := by rw [← hsb, Bool.eq_iff_iff]; simp
 have HS : Hid (sb = true ↔ s = []) := hide (by rw [← hsb]; simp)
 have HN : Hid (nb = true ↔ nm = []) := hide (by rw [← hnb]; simp)
 clear hnz
 go_enter Tryz.func63, Tryz.ntmps63
 go_wp2_with fail
 go_quiet (fail)
 obtain ⟨W2, hW2⟩ : ∃ W2, X1.drewN nq = W2 := ⟨_, rfl⟩
 have bq : Below X1.heap.size X1 W2 := by rw [← hW2]; exact _root_.Go.below_drewN (Below.refl _ _) nq
 rw [hW2]
 have n2 := (bq.block w.heap.size (Array.getElem?_eq_some_iff.1 n1).1).trans n1
 have BW := nx a1 bq
 have hrd2 := hrd1.later bq
 clear c0 c1 c2 c3 c4 n1 hX1 hW2 hrd1 bq a1 hrd hsb hnb
 obtain ⟨c0, c1, c2, c3, c4⟩ := cells_five n2
 by_cases k1 : k = 1
 · subst k1
   have HOK := hide (ok1 (a := a) (s := s) (nm := nm) (ks := ks))
   clear HS es es2
   by_cases h200 : s.length ≤ 200
   · have e200 : decide ((s.length : Int) ≤ 200) = true := decide_eq_true (by omega)
     have e200b : decide (s.length ≤ 200) = true := decide_eq_true h200
     have his := U.refIs_any sp sc s (by omega) W2 hrd2
     go_wp2_with fail
     with_reducible refine his.mono ?_
     rintro e W3 ⟨⟨b, rfl, hbb⟩, hb3⟩
     have HS : Hid (b = true ↔ (s.length ≤ 200 ∧ U.S.Canon s)) := hide (hbb.trans ⟨fun h => ⟨h200, h⟩, fun h => h.2⟩)
     have N1 := hide ((hb3.block w.heap.size (Array.getElem?_eq_some_iff.1 n2).1).trans n2)
     have BW := nx BW hb3
     clear his hbb hb3 c0 c1 c2 c3 c4 n2 hnmR e200 e200b h200
     obtain ⟨c0, c1, c2, c3, c4⟩ := cells_five N1.out
     by_cases hkl : ks.length = 0
     · have e9 : ((ks.length : Int) != 0) = false := by rw [hkl]; rfl
       have e9b : (ks.length != 0) = false := by rw [hkl]; rfl
       cases b with
       | false =>
         have HF : Hid (¬ E.Okk (.mk 1 a s nm ks)) := hide (okk_no (fun h => by
           have h1 := HOK.out.1 h
           have := HS.out.2 h1.2.1; cases this))
         go_wp2
         go_ret
         exact ⟨U.told_no HF.out, BW⟩
       | true =>
         cases nb with
         | false =>
           have HF : Hid (¬ E.Okk (.mk 1 a s nm ks)) := hide (okk_no (fun h => by
             have h1 := HOK.out.1 h
             have := HN.out.2 h1.2.2; cases this))
           go_wp2
           go_ret
           exact ⟨U.told_no HF.out, BW⟩
         | true =>
           have HF : Hid (E.Okk (.mk 1 a s nm ks)) := hide ((E.okk_eq _).2 ⟨HOK.out.2 ⟨hkl, HS.out.1 (by first | rfl | trivial), HN.out.1 (by first | rfl | trivial)⟩, fun x hx => by
             obtain rfl : ks = [] := List.eq_nil_of_length_eq_zero hkl
             cases hx⟩)
           go_wp2
           go_loopw [6] (fun u wr => u = .int .i64 0 ∧ Below w.heap.size w wr) (fun _ _ => 0)
           case atStart => exact ⟨rfl, BW⟩
           case round =>
             obtain ⟨rfl, hB⟩ := hrel
             go_wp2
             go_ret
             exact ⟨U.told_yes HF.out, hB⟩
     · have e9 : ((ks.length : Int) != 0) = true := bne_iff_ne.2 (fun h => hkl (by omega))
       have e9b : (ks.length != 0) = true := bne_iff_ne.2 hkl
       have HF : Hid (¬ E.Okk (.mk 1 a s nm ks)) := hide (okk_no (fun h => by
         have h1 := HOK.out.1 h
         exact hkl h1.1))
       go_wp2
       go_ret
       exact ⟨U.told_no HF.out, BW⟩
   · have e200 : decide ((s.length : Int) ≤ 200) = false := decide_eq_false (by omega)
     have e200b : decide (s.length ≤ 200) = false := decide_eq_false h200
     by_cases hkl : ks.length = 0
     · have e9 : ((ks.length : Int) != 0) = false := by rw [hkl]; rfl
       have e9b : (ks.length != 0) = false := by rw [hkl]; rfl
       have HF : Hid (¬ E.Okk (.mk 1 a s nm ks)) := hide (okk_no (fun h => by
         have h1 := HOK.out.1 h
         exact h200 h1.2.1.1))
       go_wp2
       go_ret
       exact ⟨U.told_no HF.out, BW⟩
     · have e9 : ((ks.length : Int) != 0) = true := bne_iff_ne.2 (fun h => hkl (by omega))
       have e9b : (ks.length != 0) = true := bne_iff_ne.2 hkl
       have HF : Hid (¬ E.Okk (.mk 1 a s nm ks)) := hide (okk_no (fun h => by
         have h1 := HOK.out.1 h
         exact hkl h1.1))
       go_wp2
       go_ret
       exact ⟨U.told_no HF.out, BW⟩
 have e1 : (k == 1) = false := by simp [k1]
 by_cases k2 : k = 2
 · subst k2
   have HOK := hide (ok2 (a := a) (s := s) (nm := nm) (ks := ks))
   clear HN
   have hn2 := hnmR W2
   have HN : Hid (E.nameP nm = true ↔ E.nameP nm = true) := hide Iff.rfl
   obtain ⟨nn, hnn⟩ : ∃ nn, E.nameP nm = nn := ⟨_, rfl⟩
   rw [hnn] at hn2
   have HN : Hid (nn = true ↔ E.nameP nm = true) := hide (by rw [hnn])
   clear hnn
   go_wp2_with fail
   with_reducible refine hn2.mono ?_
   rintro e W3 ⟨rfl, rfl⟩
   have N1 := hide n2
   clear hn2 n2 hnmR
   by_cases hkl : ks.length = 0
   · have e9 : ((ks.length : Int) != 0) = false := by rw [hkl]; rfl
     have e9b : (ks.length != 0) = false := by rw [hkl]; rfl
     cases sb with
     | false =>
       have HF : Hid (¬ E.Okk (.mk 2 a s nm ks)) := hide (okk_no (fun h => by
         have h1 := HOK.out.1 h
         have := HS.out.2 h1.2.1; cases this))
       go_wp2
       go_ret
       exact ⟨U.told_no HF.out, BW⟩
     | true =>
       cases nn with
       | false =>
         have HF : Hid (¬ E.Okk (.mk 2 a s nm ks)) := hide (okk_no (fun h => by
           have h1 := HOK.out.1 h
           have := HN.out.2 h1.2.2; cases this))
         go_wp2
         go_ret
         exact ⟨U.told_no HF.out, BW⟩
       | true =>
         have HF : Hid (E.Okk (.mk 2 a s nm ks)) := hide ((E.okk_eq _).2 ⟨HOK.out.2 ⟨hkl, HS.out.1 (by first | rfl | trivial), HN.out.1 (by first | rfl | trivial)⟩, fun x hx => by
           obtain rfl : ks = [] := List.eq_nil_of_length_eq_zero hkl
           cases hx⟩)
         go_wp2
         go_loopw [6] (fun u wr => u = .int .i64 0 ∧ Below w.heap.size w wr) (fun _ _ => 0)
         case atStart => exact ⟨rfl, BW⟩
         case round =>
           obtain ⟨rfl, hB⟩ := hrel
           go_wp2
           go_ret
           exact ⟨U.told_yes HF.out, hB⟩
   · have e9 : ((ks.length : Int) != 0) = true := bne_iff_ne.2 (fun h => hkl (by omega))
     have e9b : (ks.length != 0) = true := bne_iff_ne.2 hkl
     have HF : Hid (¬ E.Okk (.mk 2 a s nm ks)) := hide (okk_no (fun h => by
       have h1 := HOK.out.1 h
       exact hkl h1.1))
     go_wp2
     go_ret
     exact ⟨U.told_no HF.out, BW⟩
 have e2 : (k == 2) = false := by simp [k2]
 have N1 := hide n2
 clear n2 hnmR hrd2
 by_cases k3 : k = 3
 · subst k3
   have HOK := hide (okK (a := a) (s := s) (nm := nm) (ks := ks) (k := 3) 0 rfl (by omega) (by omega))
   by_cases hkl : ks.length = 0
   · have e9 : ((ks.length : Int) != 0) = false := by rw [hkl]; rfl
     have e9b : (ks.length != 0) = false := by rw [hkl]; rfl
     cases sb with
     | false =>
       have HF : Hid (¬ E.Okk (.mk 3 a s nm ks)) := hide (okk_no (fun h => by
         have h1 := HOK.out.1 h
         have := HS.out.2 h1.2.1; cases this))
       go_wp2
       go_ret
       exact ⟨U.told_no HF.out, BW⟩
     | true =>
       cases nb with
       | false =>
         have HF : Hid (¬ E.Okk (.mk 3 a s nm ks)) := hide (okk_no (fun h => by
           have h1 := HOK.out.1 h
           have := HN.out.2 h1.2.2; cases this))
         go_wp2
         go_ret
         exact ⟨U.told_no HF.out, BW⟩
       | true =>
         have HF : Hid (E.Okk (.mk 3 a s nm ks)) := hide ((E.okk_eq _).2 ⟨HOK.out.2 ⟨hkl, HS.out.1 (by first | rfl | trivial), HN.out.1 (by first | rfl | trivial)⟩, fun x hx => by
           obtain rfl : ks = [] := List.eq_nil_of_length_eq_zero hkl
           cases hx⟩)
         go_wp2
         go_loopw [6] (fun u wr => u = .int .i64 0 ∧ Below w.heap.size w wr) (fun _ _ => 0)
         case atStart => exact ⟨rfl, BW⟩
         case round =>
           obtain ⟨rfl, hB⟩ := hrel
           go_wp2
           go_ret
           exact ⟨U.told_yes HF.out, hB⟩
   · have e9 : ((ks.length : Int) != 0) = true := bne_iff_ne.2 (fun h => hkl (by omega))
     have e9b : (ks.length != 0) = true := bne_iff_ne.2 hkl
     have HF : Hid (¬ E.Okk (.mk 3 a s nm ks)) := hide (okk_no (fun h => by
       have h1 := HOK.out.1 h
       exact hkl h1.1))
     go_wp2
     go_ret
     exact ⟨U.told_no HF.out, BW⟩
 have e3 : (k == 3) = false := by simp [k3]
 by_cases k45 : k = 4 ∨ k = 5
 · rcases k45 with rfl | rfl
   · have HOK := hide (okK (a := a) (s := s) (nm := nm) (ks := ks) (k := 4) 2 rfl (by omega) (by omega))
     by_cases hkl : ks.length = 2
     · have e9 : ((ks.length : Int) != 2) = false := by rw [hkl]; rfl
       have e9b : (ks.length != 2) = false := by rw [hkl]; rfl
       cases sb with
       | false =>
         have HF : Hid (¬ E.Okk (.mk 4 a s nm ks)) := hide (okk_no (fun h => by
           have h1 := HOK.out.1 h
           have := HS.out.2 h1.2.1; cases this))
         go_wp2
         go_ret
         exact ⟨U.told_no HF.out, BW⟩
       | true =>
         cases nb with
         | false =>
           have HF : Hid (¬ E.Okk (.mk 4 a s nm ks)) := hide (okk_no (fun h => by
             have h1 := HOK.out.1 h
             have := HN.out.2 h1.2.2; cases this))
           go_wp2
           go_ret
           exact ⟨U.told_no HF.out, BW⟩
         | true =>
           go_wp2
           go_loopw [6] (fun u wr => ∃ i : Nat, u = .int .i64 (i : Int) ∧ i ≤ 2 ∧ Hid (∀ x ∈ ks.take i, E.Okk x) ∧ wr.heap[w.heap.size]? = some (.cells #[.int .i64 4, .int .i64 a, .slice sp s.length sc, .string ⟨nm.toArray⟩, .slice kp ks.length kc] 26) ∧ Below w.heap.size w wr) (fun u _ => 2 - (intOf u).toNat)
           case atStart => exact ⟨0, rfl, Nat.zero_le _, hide (fun x hx => by simp at hx), N1.out, BW⟩
           case round =>
             obtain ⟨i, rfl, hi, HA, m1, hB⟩ := hrel
             clear c0 c1 c2 c3 c4 BW N1
             obtain ⟨c0, c1, c2, c3, c4⟩ := cells_five m1
             by_cases hlt : i < 2
             · have hlk : i < ks.length := by rw [hkl]; exact hlt
               obtain ⟨b, off, v, hkp, ht1, hc1⟩ := KR.get _ 0 hkr1 i hlk
               obtain ⟨d1, rfl⟩ := ht1.ndD
               subst hkp
               rw [Nat.zero_add] at hc1
               have hl1 := cells5_lt hc1
               have HX : Hid (ks.take (i + 1) = ks.take i ++ [ks[i]]) := hide (List.take_succ_eq_append_getElem hlk)
               have HM := hide (List.getElem_mem hlk)
               have hcl := ih ks[i] (List.getElem_mem hlk) d1 wr (TR.later (fun k hk => hB.block k hk) _ ht1)
               have hwl : w.heap.size < wr.heap.size := (Array.getElem?_eq_some_iff.1 m1).1
               obtain ⟨y0, y1, y2, y3, y4, ev, g0, g1, g2, g3, g4⟩ := hc1
               unfold ND.v at hcl ev
               simp only [Value.agg.injEq, Array.mk.injEq, List.cons.injEq, and_true] at ev
               obtain ⟨rfl, rfl, rfl, rfl, rfl⟩ := ev
               have hcb : ∀ j, wr.cell? ⟨b, j, none⟩ = w.cell? ⟨b, j, none⟩ := fun j => World.cell?_of_block (w := w) (a := ⟨b, j, none⟩) (hB.block b hl1)
               rw [← hcb] at g0 g1 g2 g3 g4
               clear ht1 hcb
               go_wp2_with fail
               with_reducible refine hcl.mono ?_
               rintro e W4 ⟨⟨bb, rfl, hbb⟩, hb4⟩
               have M1 := hide ((hb4.block w.heap.size hwl).trans m1)
               have HB := hide (hB.trans (hb4.mono (Nat.le_of_lt hwl)))
               have HBB := hide hbb
               clear m1 hcl hb4 hbb c0 c1 c2 c3 c4 g0 g1 g2 g3 g4
               cases bb with
               | false =>
                 have HF : Hid (¬ E.Okk (.mk 4 a s nm ks)) := hide (fun h => by
                   have h1 := ((E.okk_eq _).1 h).2 _ HM.out
                   have := HBB.out.2 h1
                   cases this)
                 clear HBB HA HX HM
                 go_wp2
                 go_ret
                 exact ⟨U.told_no HF.out, HB.out⟩
               | true =>
                 have HX2 : Hid (∀ x ∈ ks.take (i + 1), E.Okk x) := hide (fun x hx => by
                   rw [HX.out] at hx
                   rcases List.mem_append.1 hx with h | h
                   · exact HA.out x h
                   · rw [List.mem_singleton] at h
                     rw [h]
                     exact HBB.out.1 rfl)
                 clear HBB HA HX HM
                 go_wp2
                 go_roundw
                 case rel => exact ⟨i + 1, by go_num, by omega, HX2.out, M1.out, HB.out⟩
                 case measure => simp [intOf]; omega
             · obtain rfl : i = 2 := by omega
               have HF : Hid (E.Okk (.mk 4 a s nm ks)) := hide ((E.okk_eq _).2 ⟨HOK.out.2 ⟨hkl, HS.out.1 (by first | rfl | trivial), HN.out.1 (by first | rfl | trivial)⟩, fun x hx => HA.out x (by rw [List.take_of_length_le (by omega)]; exact hx)⟩)
               clear HA
               go_wp2
               go_ret
               exact ⟨U.told_yes HF.out, hB⟩
     · have e9 : ((ks.length : Int) != 2) = true := bne_iff_ne.2 (fun h => hkl (by omega))
       have e9b : (ks.length != 2) = true := bne_iff_ne.2 hkl
       have HF : Hid (¬ E.Okk (.mk 4 a s nm ks)) := hide (okk_no (fun h => by
         have h1 := HOK.out.1 h
         exact hkl h1.1))
       go_wp2
       go_ret
       exact ⟨U.told_no HF.out, BW⟩
   · have HOK := hide (okK (a := a) (s := s) (nm := nm) (ks := ks) (k := 5) 2 rfl (by omega) (by omega))
     by_cases hkl : ks.length = 2
     · have e9 : ((ks.length : Int) != 2) = false := by rw [hkl]; rfl
       have e9b : (ks.length != 2) = false := by rw [hkl]; rfl
       cases sb with
       | false =>
         have HF : Hid (¬ E.Okk (.mk 5 a s nm ks)) := hide (okk_no (fun h => by
           have h1 := HOK.out.1 h
           have := HS.out.2 h1.2.1; cases this))
         go_wp2
         go_ret
         exact ⟨U.told_no HF.out, BW⟩
       | true =>
         cases nb with
         | false =>
           have HF : Hid (¬ E.Okk (.mk 5 a s nm ks)) := hide (okk_no (fun h => by
             have h1 := HOK.out.1 h
             have := HN.out.2 h1.2.2; cases this))
           go_wp2
           go_ret
           exact ⟨U.told_no HF.out, BW⟩
         | true =>
           go_wp2
           go_loopw [6] (fun u wr => ∃ i : Nat, u = .int .i64 (i : Int) ∧ i ≤ 2 ∧ Hid (∀ x ∈ ks.take i, E.Okk x) ∧ wr.heap[w.heap.size]? = some (.cells #[.int .i64 5, .int .i64 a, .slice sp s.length sc, .string ⟨nm.toArray⟩, .slice kp ks.length kc] 26) ∧ Below w.heap.size w wr) (fun u _ => 2 - (intOf u).toNat)
           case atStart => exact ⟨0, rfl, Nat.zero_le _, hide (fun x hx => by simp at hx), N1.out, BW⟩
           case round =>
             obtain ⟨i, rfl, hi, HA, m1, hB⟩ := hrel
             clear c0 c1 c2 c3 c4 BW N1
             obtain ⟨c0, c1, c2, c3, c4⟩ := cells_five m1
             by_cases hlt : i < 2
             · have hlk : i < ks.length := by rw [hkl]; exact hlt
               obtain ⟨b, off, v, hkp, ht1, hc1⟩ := KR.get _ 0 hkr1 i hlk
               obtain ⟨d1, rfl⟩ := ht1.ndD
               subst hkp
               rw [Nat.zero_add] at hc1
               have hl1 := cells5_lt hc1
               have HX : Hid (ks.take (i + 1) = ks.take i ++ [ks[i]]) := hide (List.take_succ_eq_append_getElem hlk)
               have HM := hide (List.getElem_mem hlk)
               have hcl := ih ks[i] (List.getElem_mem hlk) d1 wr (TR.later (fun k hk => hB.block k hk) _ ht1)
               have hwl : w.heap.size < wr.heap.size := (Array.getElem?_eq_some_iff.1 m1).1
               obtain ⟨y0, y1, y2, y3, y4, ev, g0, g1, g2, g3, g4⟩ := hc1
               unfold ND.v at hcl ev
               simp only [Value.agg.injEq, Array.mk.injEq, List.cons.injEq, and_true] at ev
               obtain ⟨rfl, rfl, rfl, rfl, rfl⟩ := ev
               have hcb : ∀ j, wr.cell? ⟨b, j, none⟩ = w.cell? ⟨b, j, none⟩ := fun j => World.cell?_of_block (w := w) (a := ⟨b, j, none⟩) (hB.block b hl1)
               rw [← hcb] at g0 g1 g2 g3 g4
               clear ht1 hcb
               go_wp2_with fail
               with_reducible refine hcl.mono ?_
               rintro e W4 ⟨⟨bb, rfl, hbb⟩, hb4⟩
               have M1 := hide ((hb4.block w.heap.size hwl).trans m1)
               have HB := hide (hB.trans (hb4.mono (Nat.le_of_lt hwl)))
               have HBB := hide hbb
               clear m1 hcl hb4 hbb c0 c1 c2 c3 c4 g0 g1 g2 g3 g4
               cases bb with
               | false =>
                 have HF : Hid (¬ E.Okk (.mk 5 a s nm ks)) := hide (fun h => by
                   have h1 := ((E.okk_eq _).1 h).2 _ HM.out
                   have := HBB.out.2 h1
                   cases this)
                 clear HBB HA HX HM
                 go_wp2
                 go_ret
                 exact ⟨U.told_no HF.out, HB.out⟩
               | true =>
                 have HX2 : Hid (∀ x ∈ ks.take (i + 1), E.Okk x) := hide (fun x hx => by
                   rw [HX.out] at hx
                   rcases List.mem_append.1 hx with h | h
                   · exact HA.out x h
                   · rw [List.mem_singleton] at h
                     rw [h]
                     exact HBB.out.1 rfl)
                 clear HBB HA HX HM
                 go_wp2
                 go_roundw
                 case rel => exact ⟨i + 1, by go_num, by omega, HX2.out, M1.out, HB.out⟩
                 case measure => simp [intOf]; omega
             · obtain rfl : i = 2 := by omega
               have HF : Hid (E.Okk (.mk 5 a s nm ks)) := hide ((E.okk_eq _).2 ⟨HOK.out.2 ⟨hkl, HS.out.1 (by first | rfl | trivial), HN.out.1 (by first | rfl | trivial)⟩, fun x hx => HA.out x (by rw [List.take_of_length_le (by omega)]; exact hx)⟩)
               clear HA
               go_wp2
               go_ret
               exact ⟨U.told_yes HF.out, hB⟩
     · have e9 : ((ks.length : Int) != 2) = true := bne_iff_ne.2 (fun h => hkl (by omega))
       have e9b : (ks.length != 2) = true := bne_iff_ne.2 hkl
       have HF : Hid (¬ E.Okk (.mk 5 a s nm ks)) := hide (okk_no (fun h => by
         have h1 := HOK.out.1 h
         exact hkl h1.1))
       go_wp2
       go_ret
       exact ⟨U.told_no HF.out, BW⟩
 have e4 : (k == 4) = false := by simp; omega
 have e5 : (k == 5) = false := by simp; omega
 by_cases k678 : k = 6 ∨ k = 7 ∨ k = 8
 · rcases k678 with rfl | rfl | rfl
   · have HOK := hide (okK (a := a) (s := s) (nm := nm) (ks := ks) (k := 6) 1 rfl (by omega) (by omega))
     by_cases hkl : ks.length = 1
     · have e9 : ((ks.length : Int) != 1) = false := by rw [hkl]; rfl
       have e9b : (ks.length != 1) = false := by rw [hkl]; rfl
       cases sb with
       | false =>
         have HF : Hid (¬ E.Okk (.mk 6 a s nm ks)) := hide (okk_no (fun h => by
           have h1 := HOK.out.1 h
           have := HS.out.2 h1.2.1; cases this))
         go_wp2
         go_ret
         exact ⟨U.told_no HF.out, BW⟩
       | true =>
         cases nb with
         | false =>
           have HF : Hid (¬ E.Okk (.mk 6 a s nm ks)) := hide (okk_no (fun h => by
             have h1 := HOK.out.1 h
             have := HN.out.2 h1.2.2; cases this))
           go_wp2
           go_ret
           exact ⟨U.told_no HF.out, BW⟩
         | true =>
           go_wp2
           go_loopw [6] (fun u wr => ∃ i : Nat, u = .int .i64 (i : Int) ∧ i ≤ 1 ∧ Hid (∀ x ∈ ks.take i, E.Okk x) ∧ wr.heap[w.heap.size]? = some (.cells #[.int .i64 6, .int .i64 a, .slice sp s.length sc, .string ⟨nm.toArray⟩, .slice kp ks.length kc] 26) ∧ Below w.heap.size w wr) (fun u _ => 1 - (intOf u).toNat)
           case atStart => exact ⟨0, rfl, Nat.zero_le _, hide (fun x hx => by simp at hx), N1.out, BW⟩
           case round =>
             obtain ⟨i, rfl, hi, HA, m1, hB⟩ := hrel
             clear c0 c1 c2 c3 c4 BW N1
             obtain ⟨c0, c1, c2, c3, c4⟩ := cells_five m1
             by_cases hlt : i < 1
             · have hlk : i < ks.length := by rw [hkl]; exact hlt
               obtain ⟨b, off, v, hkp, ht1, hc1⟩ := KR.get _ 0 hkr1 i hlk
               obtain ⟨d1, rfl⟩ := ht1.ndD
               subst hkp
               rw [Nat.zero_add] at hc1
               have hl1 := cells5_lt hc1
               have HX : Hid (ks.take (i + 1) = ks.take i ++ [ks[i]]) := hide (List.take_succ_eq_append_getElem hlk)
               have HM := hide (List.getElem_mem hlk)
               have hcl := ih ks[i] (List.getElem_mem hlk) d1 wr (TR.later (fun k hk => hB.block k hk) _ ht1)
               have hwl : w.heap.size < wr.heap.size := (Array.getElem?_eq_some_iff.1 m1).1
               obtain ⟨y0, y1, y2, y3, y4, ev, g0, g1, g2, g3, g4⟩ := hc1
               unfold ND.v at hcl ev
               simp only [Value.agg.injEq, Array.mk.injEq, List.cons.injEq, and_true] at ev
               obtain ⟨rfl, rfl, rfl, rfl, rfl⟩ := ev
               have hcb : ∀ j, wr.cell? ⟨b, j, none⟩ = w.cell? ⟨b, j, none⟩ := fun j => World.cell?_of_block (w := w) (a := ⟨b, j, none⟩) (hB.block b hl1)
               rw [← hcb] at g0 g1 g2 g3 g4
               clear ht1 hcb
               go_wp2_with fail
               with_reducible refine hcl.mono ?_
               rintro e W4 ⟨⟨bb, rfl, hbb⟩, hb4⟩
               have M1 := hide ((hb4.block w.heap.size hwl).trans m1)
               have HB := hide (hB.trans (hb4.mono (Nat.le_of_lt hwl)))
               have HBB := hide hbb
               clear m1 hcl hb4 hbb c0 c1 c2 c3 c4 g0 g1 g2 g3 g4
               cases bb with
               | false =>
                 have HF : Hid (¬ E.Okk (.mk 6 a s nm ks)) := hide (fun h => by
                   have h1 := ((E.okk_eq _).1 h).2 _ HM.out
                   have := HBB.out.2 h1
                   cases this)
                 clear HBB HA HX HM
                 go_wp2
                 go_ret
                 exact ⟨U.told_no HF.out, HB.out⟩
               | true =>
                 have HX2 : Hid (∀ x ∈ ks.take (i + 1), E.Okk x) := hide (fun x hx => by
                   rw [HX.out] at hx
                   rcases List.mem_append.1 hx with h | h
                   · exact HA.out x h
                   · rw [List.mem_singleton] at h
                     rw [h]
                     exact HBB.out.1 rfl)
                 clear HBB HA HX HM
                 go_wp2
                 go_roundw
                 case rel => exact ⟨i + 1, by go_num, by omega, HX2.out, M1.out, HB.out⟩
                 case measure => simp [intOf]; omega
             · obtain rfl : i = 1 := by omega
               have HF : Hid (E.Okk (.mk 6 a s nm ks)) := hide ((E.okk_eq _).2 ⟨HOK.out.2 ⟨hkl, HS.out.1 (by first | rfl | trivial), HN.out.1 (by first | rfl | trivial)⟩, fun x hx => HA.out x (by rw [List.take_of_length_le (by omega)]; exact hx)⟩)
               clear HA
               go_wp2
               go_ret
               exact ⟨U.told_yes HF.out, hB⟩
     · have e9 : ((ks.length : Int) != 1) = true := bne_iff_ne.2 (fun h => hkl (by omega))
       have e9b : (ks.length != 1) = true := bne_iff_ne.2 hkl
       have HF : Hid (¬ E.Okk (.mk 6 a s nm ks)) := hide (okk_no (fun h => by
         have h1 := HOK.out.1 h
         exact hkl h1.1))
       go_wp2
       go_ret
       exact ⟨U.told_no HF.out, BW⟩
   · have HOK := hide (okK (a := a) (s := s) (nm := nm) (ks := ks) (k := 7) 1 rfl (by omega) (by omega))
     by_cases hkl : ks.length = 1
     · have e9 : ((ks.length : Int) != 1) = false := by rw [hkl]; rfl
       have e9b : (ks.length != 1) = false := by rw [hkl]; rfl
       cases sb with
       | false =>
         have HF : Hid (¬ E.Okk (.mk 7 a s nm ks)) := hide (okk_no (fun h => by
           have h1 := HOK.out.1 h
           have := HS.out.2 h1.2.1; cases this))
         go_wp2
         go_ret
         exact ⟨U.told_no HF.out, BW⟩
       | true =>
         cases nb with
         | false =>
           have HF : Hid (¬ E.Okk (.mk 7 a s nm ks)) := hide (okk_no (fun h => by
             have h1 := HOK.out.1 h
             have := HN.out.2 h1.2.2; cases this))
           go_wp2
           go_ret
           exact ⟨U.told_no HF.out, BW⟩
         | true =>
           go_wp2
           go_loopw [6] (fun u wr => ∃ i : Nat, u = .int .i64 (i : Int) ∧ i ≤ 1 ∧ Hid (∀ x ∈ ks.take i, E.Okk x) ∧ wr.heap[w.heap.size]? = some (.cells #[.int .i64 7, .int .i64 a, .slice sp s.length sc, .string ⟨nm.toArray⟩, .slice kp ks.length kc] 26) ∧ Below w.heap.size w wr) (fun u _ => 1 - (intOf u).toNat)
           case atStart => exact ⟨0, rfl, Nat.zero_le _, hide (fun x hx => by simp at hx), N1.out, BW⟩
           case round =>
             obtain ⟨i, rfl, hi, HA, m1, hB⟩ := hrel
             clear c0 c1 c2 c3 c4 BW N1
             obtain ⟨c0, c1, c2, c3, c4⟩ := cells_five m1
             by_cases hlt : i < 1
             · have hlk : i < ks.length := by rw [hkl]; exact hlt
               obtain ⟨b, off, v, hkp, ht1, hc1⟩ := KR.get _ 0 hkr1 i hlk
               obtain ⟨d1, rfl⟩ := ht1.ndD
               subst hkp
               rw [Nat.zero_add] at hc1
               have hl1 := cells5_lt hc1
               have HX : Hid (ks.take (i + 1) = ks.take i ++ [ks[i]]) := hide (List.take_succ_eq_append_getElem hlk)
               have HM := hide (List.getElem_mem hlk)
               have hcl := ih ks[i] (List.getElem_mem hlk) d1 wr (TR.later (fun k hk => hB.block k hk) _ ht1)
               have hwl : w.heap.size < wr.heap.size := (Array.getElem?_eq_some_iff.1 m1).1
               obtain ⟨y0, y1, y2, y3, y4, ev, g0, g1, g2, g3, g4⟩ := hc1
               unfold ND.v at hcl ev
               simp only [Value.agg.injEq, Array.mk.injEq, List.cons.injEq, and_true] at ev
               obtain ⟨rfl, rfl, rfl, rfl, rfl⟩ := ev
               have hcb : ∀ j, wr.cell? ⟨b, j, none⟩ = w.cell? ⟨b, j, none⟩ := fun j => World.cell?_of_block (w := w) (a := ⟨b, j, none⟩) (hB.block b hl1)
               rw [← hcb] at g0 g1 g2 g3 g4
               clear ht1 hcb
               go_wp2_with fail
               with_reducible refine hcl.mono ?_
               rintro e W4 ⟨⟨bb, rfl, hbb⟩, hb4⟩
               have M1 := hide ((hb4.block w.heap.size hwl).trans m1)
               have HB := hide (hB.trans (hb4.mono (Nat.le_of_lt hwl)))
               have HBB := hide hbb
               clear m1 hcl hb4 hbb c0 c1 c2 c3 c4 g0 g1 g2 g3 g4
               cases bb with
               | false =>
                 have HF : Hid (¬ E.Okk (.mk 7 a s nm ks)) := hide (fun h => by
                   have h1 := ((E.okk_eq _).1 h).2 _ HM.out
                   have := HBB.out.2 h1
                   cases this)
                 clear HBB HA HX HM
                 go_wp2
                 go_ret
                 exact ⟨U.told_no HF.out, HB.out⟩
               | true =>
                 have HX2 : Hid (∀ x ∈ ks.take (i + 1), E.Okk x) := hide (fun x hx => by
                   rw [HX.out] at hx
                   rcases List.mem_append.1 hx with h | h
                   · exact HA.out x h
                   · rw [List.mem_singleton] at h
                     rw [h]
                     exact HBB.out.1 rfl)
                 clear HBB HA HX HM
                 go_wp2
                 go_roundw
                 case rel => exact ⟨i + 1, by go_num, by omega, HX2.out, M1.out, HB.out⟩
                 case measure => simp [intOf]; omega
             · obtain rfl : i = 1 := by omega
               have HF : Hid (E.Okk (.mk 7 a s nm ks)) := hide ((E.okk_eq _).2 ⟨HOK.out.2 ⟨hkl, HS.out.1 (by first | rfl | trivial), HN.out.1 (by first | rfl | trivial)⟩, fun x hx => HA.out x (by rw [List.take_of_length_le (by omega)]; exact hx)⟩)
               clear HA
               go_wp2
               go_ret
               exact ⟨U.told_yes HF.out, hB⟩
     · have e9 : ((ks.length : Int) != 1) = true := bne_iff_ne.2 (fun h => hkl (by omega))
       have e9b : (ks.length != 1) = true := bne_iff_ne.2 hkl
       have HF : Hid (¬ E.Okk (.mk 7 a s nm ks)) := hide (okk_no (fun h => by
         have h1 := HOK.out.1 h
         exact hkl h1.1))
       go_wp2
       go_ret
       exact ⟨U.told_no HF.out, BW⟩
   · have HOK := hide (okK (a := a) (s := s) (nm := nm) (ks := ks) (k := 8) 1 rfl (by omega) (by omega))
     by_cases hkl : ks.length = 1
     · have e9 : ((ks.length : Int) != 1) = false := by rw [hkl]; rfl
       have e9b : (ks.length != 1) = false := by rw [hkl]; rfl
       cases sb with
       | false =>
         have HF : Hid (¬ E.Okk (.mk 8 a s nm ks)) := hide (okk_no (fun h => by
           have h1 := HOK.out.1 h
           have := HS.out.2 h1.2.1; cases this))
         go_wp2
         go_ret
         exact ⟨U.told_no HF.out, BW⟩
       | true =>
         cases nb with
         | false =>
           have HF : Hid (¬ E.Okk (.mk 8 a s nm ks)) := hide (okk_no (fun h => by
             have h1 := HOK.out.1 h
             have := HN.out.2 h1.2.2; cases this))
           go_wp2
           go_ret
           exact ⟨U.told_no HF.out, BW⟩
         | true =>
           go_wp2
           go_loopw [6] (fun u wr => ∃ i : Nat, u = .int .i64 (i : Int) ∧ i ≤ 1 ∧ Hid (∀ x ∈ ks.take i, E.Okk x) ∧ wr.heap[w.heap.size]? = some (.cells #[.int .i64 8, .int .i64 a, .slice sp s.length sc, .string ⟨nm.toArray⟩, .slice kp ks.length kc] 26) ∧ Below w.heap.size w wr) (fun u _ => 1 - (intOf u).toNat)
           case atStart => exact ⟨0, rfl, Nat.zero_le _, hide (fun x hx => by simp at hx), N1.out, BW⟩
           case round =>
             obtain ⟨i, rfl, hi, HA, m1, hB⟩ := hrel
             clear c0 c1 c2 c3 c4 BW N1
             obtain ⟨c0, c1, c2, c3, c4⟩ := cells_five m1
             by_cases hlt : i < 1
             · have hlk : i < ks.length := by rw [hkl]; exact hlt
               obtain ⟨b, off, v, hkp, ht1, hc1⟩ := KR.get _ 0 hkr1 i hlk
               obtain ⟨d1, rfl⟩ := ht1.ndD
               subst hkp
               rw [Nat.zero_add] at hc1
               have hl1 := cells5_lt hc1
               have HX : Hid (ks.take (i + 1) = ks.take i ++ [ks[i]]) := hide (List.take_succ_eq_append_getElem hlk)
               have HM := hide (List.getElem_mem hlk)
               have hcl := ih ks[i] (List.getElem_mem hlk) d1 wr (TR.later (fun k hk => hB.block k hk) _ ht1)
               have hwl : w.heap.size < wr.heap.size := (Array.getElem?_eq_some_iff.1 m1).1
               obtain ⟨y0, y1, y2, y3, y4, ev, g0, g1, g2, g3, g4⟩ := hc1
               unfold ND.v at hcl ev
               simp only [Value.agg.injEq, Array.mk.injEq, List.cons.injEq, and_true] at ev
               obtain ⟨rfl, rfl, rfl, rfl, rfl⟩ := ev
               have hcb : ∀ j, wr.cell? ⟨b, j, none⟩ = w.cell? ⟨b, j, none⟩ := fun j => World.cell?_of_block (w := w) (a := ⟨b, j, none⟩) (hB.block b hl1)
               rw [← hcb] at g0 g1 g2 g3 g4
               clear ht1 hcb
               go_wp2_with fail
               with_reducible refine hcl.mono ?_
               rintro e W4 ⟨⟨bb, rfl, hbb⟩, hb4⟩
               have M1 := hide ((hb4.block w.heap.size hwl).trans m1)
               have HB := hide (hB.trans (hb4.mono (Nat.le_of_lt hwl)))
               have HBB := hide hbb
               clear m1 hcl hb4 hbb c0 c1 c2 c3 c4 g0 g1 g2 g3 g4
               cases bb with
               | false =>
                 have HF : Hid (¬ E.Okk (.mk 8 a s nm ks)) := hide (fun h => by
                   have h1 := ((E.okk_eq _).1 h).2 _ HM.out
                   have := HBB.out.2 h1
                   cases this)
                 clear HBB HA HX HM
                 go_wp2
                 go_ret
                 exact ⟨U.told_no HF.out, HB.out⟩
               | true =>
                 have HX2 : Hid (∀ x ∈ ks.take (i + 1), E.Okk x) := hide (fun x hx => by
                   rw [HX.out] at hx
                   rcases List.mem_append.1 hx with h | h
                   · exact HA.out x h
                   · rw [List.mem_singleton] at h
                     rw [h]
                     exact HBB.out.1 rfl)
                 clear HBB HA HX HM
                 go_wp2
                 go_roundw
                 case rel => exact ⟨i + 1, by go_num, by omega, HX2.out, M1.out, HB.out⟩
                 case measure => simp [intOf]; omega
             · obtain rfl : i = 1 := by omega
               have HF : Hid (E.Okk (.mk 8 a s nm ks)) := hide ((E.okk_eq _).2 ⟨HOK.out.2 ⟨hkl, HS.out.1 (by first | rfl | trivial), HN.out.1 (by first | rfl | trivial)⟩, fun x hx => HA.out x (by rw [List.take_of_length_le (by omega)]; exact hx)⟩)
               clear HA
               go_wp2
               go_ret
               exact ⟨U.told_yes HF.out, hB⟩
     · have e9 : ((ks.length : Int) != 1) = true := bne_iff_ne.2 (fun h => hkl (by omega))
       have e9b : (ks.length != 1) = true := bne_iff_ne.2 hkl
       have HF : Hid (¬ E.Okk (.mk 8 a s nm ks)) := hide (okk_no (fun h => by
         have h1 := HOK.out.1 h
         exact hkl h1.1))
       go_wp2
       go_ret
       exact ⟨U.told_no HF.out, BW⟩
 have e6 : (k == 6) = false := by simp; omega
 have e7 : (k == 7) = false := by simp; omega
 have e8 : (k == 8) = false := by simp; omega
 have HF : Hid (¬ E.Okk (.mk k a s nm ks)) := hide (okk_no (okN (by omega)))
 go_wp2
 go_ret
 exact ⟨U.told_no HF.out, BW⟩
theorem form_n : ∀ (n : Nat) (t : T), SizeOf.sizeOf t < n → InT t → ∀ (d : ND) (w : World), TR w (fun _ => True) t d.v → Calls Tryz.prog 63 #[d.v] w fun e w' => U.Told (E.Okk t) e ∧ Below w.heap.size w w'
 | 0, _, h, _ => absurd h (Nat.not_lt_zero _)
 | n + 1, .mk k a s nm ks, h, hF => fun d w hd => form_step k a s nm ks (hF (.mk k a s nm ks, .mk k a s nm ks) (by rw [pre_self]; exact List.mem_cons_self)) (fun t ht => form_n n t (by
     have := List.sizeOf_lt_of_mem ht
     simp at h
     omega) (fun p hp => hF p (by rw [pre_self]; exact List.mem_cons_of_mem _ (List.mem_flatMap.2 ⟨t, ht, hp⟩)))) d w hd
set_option maxRecDepth 100000 in
set_option maxHeartbeats 1000000 in
theorem isR_any (t : T) (hF : InT t) (d : ND) (w : World) (hd : TR w (fun _ => True) t d.v) : Calls Tryz.prog 30 #[d.v] w fun e w' => U.Told (E.IsP t) e ∧ Below w.heap.size w w' := by
 have HI : Hid (E.IsP t ↔ sz t ≤ 400 ∧ E.Okk t) := hide Iff.rfl
 have a1 := al1 w (.cells #[.int .i64 d.k, .int .i64 d.a, .slice d.sp d.sl d.sc, .string d.n, .slice d.kp d.kl d.kc] 26)
 have n1 := heap_alloc_new w (.cells #[.int .i64 d.k, .int .i64 d.a, .slice d.sp d.sl d.sc, .string d.n, .slice d.kp d.kl d.kc] 26)
 have h1 := count_any t hF d _ 400 (by omega) (TR.later (fun k hk => a1.block k hk) _ hd)
 obtain ⟨X1, hX1⟩ : ∃ X1, w.alloc (.cells #[.int .i64 d.k, .int .i64 d.a, .slice d.sp d.sl d.sc, .string d.n, .slice d.kp d.kl d.kc] 26) = X1 := ⟨_, rfl⟩
 rw [hX1] at a1 n1 h1
 obtain ⟨c0, c1, c2, c3, c4⟩ := cells_five n1
 obtain ⟨r, hr⟩ : ∃ r : Nat, min (sz t) (400 + 1) = r := ⟨_, rfl⟩
 rw [hr] at h1
 have HR := hide hr
 have hrb : r ≤ 401 := by omega
 clear hr
 rw [show ((400 : Nat) : Int) = 400 from rfl] at h1
 unfold ND.v at h1
 have hd' := hd
 unfold ND.v
 by_cases hr2 : r ≤ 400
 · have er : decide ((r : Int) ≤ 400) = true := decide_eq_true (by omega)
   have er2 : decide (r ≤ 400) = true := decide_eq_true hr2
   have HS : Hid (sz t ≤ 400) := hide (by have := HR.out; omega)
   clear hr2
   go_enter Tryz.func30, Tryz.ntmps30
   go_wp2_with fail
   with_reducible refine h1.mono ?_
   rintro e W2 ⟨rfl, hb2⟩
   have B2 := nx a1 hb2
   have m1 := (hb2.block w.heap.size (Array.getElem?_eq_some_iff.1 n1).1).trans n1
   have h2 := form_n (SizeOf.sizeOf t + 1) t (Nat.lt_succ_self _) hF d W2 (TR.later (fun k hk => B2.block k hk) _ hd)
   unfold ND.v at h2
   clear c0 c1 c2 c3 c4 n1 hX1 hd hd' h1
   obtain ⟨c0, c1, c2, c3, c4⟩ := cells_five m1
   go_wp2_with fail
   with_reducible refine h2.mono ?_
   rintro e W3 ⟨⟨b, rfl, hb⟩, hb3⟩
   have HB := hide hb
   have B3 := nx B2 hb3
   clear hb hb3 h2
   go_wp2
   go_ret
   exact ⟨⟨b, rfl, HB.out.trans ⟨fun h => HI.out.2 ⟨HS.out, h⟩, fun h => (HI.out.1 h).2⟩⟩, B3⟩
 · have er : decide ((r : Int) ≤ 400) = false := decide_eq_false (by omega)
   have er2 : decide (r ≤ 400) = false := decide_eq_false hr2
   have HS : Hid (¬ sz t ≤ 400) := hide (by have := HR.out; omega)
   clear hr2
   go_enter Tryz.func30, Tryz.ntmps30
   go_wp2_with fail
   with_reducible refine h1.mono ?_
   rintro e W2 ⟨rfl, hb2⟩
   have B2 := nx a1 hb2
   clear h1 hd hd'
   go_wp2
   go_ret
   exact ⟨U.told_no (fun h => HS.out (HI.out.1 h).1), B2⟩
end Go.Proofs.YtemanednddhfaaaGreatDoor
namespace Go.Proofs.YtemanednddhfaaaGreatDoor
open Go.RowKit Go.Shelf
open E (T)
attribute [local go_sem] Oper.semAt_some
namespace E
theorem srt_uniq : ∀ {a b : List (List UInt8)}, a.Pairwise (· < ·) → b.Pairwise (· < ·) → (∀ y, y ∈ a ↔ y ∈ b) → a = b
 | [], [], _, _, _ => rfl
 | [], y :: b, _, _, h => absurd ((h y).2 List.mem_cons_self) (by simp)
 | x :: a, [], _, _, h => absurd ((h x).1 List.mem_cons_self) (by simp)
 | x :: a, y :: b, ha, hb, h => by
   rw [List.pairwise_cons] at ha hb
   have hxy : x = y := by
     rcases List.mem_cons.1 ((h x).1 List.mem_cons_self) with e | e
     · exact e
     · rcases List.mem_cons.1 ((h y).2 List.mem_cons_self) with e' | e'
       · exact e'.symm
       · exact absurd (List.lt_trans (hb.1 x e) (ha.1 y e')) (List.lt_irrefl y)
   subst hxy
   refine congrArg (x :: ·) (srt_uniq ha.2 hb.2 fun z => ⟨fun hz => ?_, fun hz => ?_⟩)
   · rcases List.mem_cons.1 ((h z).1 (List.mem_cons_of_mem _ hz)) with e | e
     · subst e; exact absurd (ha.1 z hz) (List.lt_irrefl z)
     · exact e
   · rcases List.mem_cons.1 ((h z).2 (List.mem_cons_of_mem _ hz)) with e | e
     · subst e; exact absurd (hb.1 z hz) (List.lt_irrefl z)
     · exact e
theorem comp_srt (zs : List (List UInt8)) (hs : zs.Pairwise (· ≤ ·)) : ∀ m, m ≤ zs.length → (Go.Lib.compactUpTo zs.toArray m).Pairwise (· < ·) ∧ (∀ y, y ∈ Go.Lib.compactUpTo zs.toArray m ↔ y ∈ zs.take m)
 | 0, _ => by simp [Go.Lib.compactUpTo]
 | m + 1, hm => by
   obtain ⟨h1, h2⟩ := comp_srt zs hs m (by omega)
   have hlt : m < zs.length := hm
   have hd : zs.toArray[m]! = zs[m] := by simp [hlt]
   have htk : zs.take (m + 1) = zs.take m ++ [zs[m]] := List.take_succ_eq_append_getElem hlt
   have hle : ∀ y ∈ zs.take m, y ≤ zs[m] := by
     intro y hy
     obtain ⟨j, hj, rfl⟩ := List.mem_iff_getElem.1 hy
     rw [List.length_take] at hj
     rw [List.getElem_take]
     exact (List.pairwise_iff_getElem.1 hs) j m (by omega) hlt (by omega)
   rw [Go.Lib.compactUpTo_succ, hd]
   by_cases hk : Go.Lib.keeps zs.toArray m = true
   · rw [if_pos hk]
     have hnm : zs[m] ∉ zs.take m := by
       intro hmem
       cases m with
       | zero => simp at hmem
       | succ j =>
         have hne : zs[j] ≠ zs[j + 1] := by
           have hj : j < zs.length := by omega
           unfold Go.Lib.keeps at hk
           simp [hj, hlt] at hk
           intro e; exact hk (by first | exact e | exact e.symm)
         obtain ⟨i, hi, he⟩ := List.mem_iff_getElem.1 hmem
         rw [List.length_take] at hi
         rw [List.getElem_take] at he
         have h3 : zs[j + 1] ≤ zs[j] := by
           rw [← he]
           by_cases hij : i = j
           · subst hij; exact List.le_refl _
           · exact (List.pairwise_iff_getElem.1 hs) i j (by omega) (by omega) (by omega)
         have h4 : zs[j] ≤ zs[j + 1] := (List.pairwise_iff_getElem.1 hs) j (j + 1) (by omega) hlt (by omega)
         exact hne (List.le_antisymm h4 h3)
     refine ⟨?_, fun y => ?_⟩
     · rw [List.pairwise_append]
       refine ⟨h1, List.pairwise_singleton _ _, ?_⟩
       intro y hy z hz
       rw [List.mem_singleton] at hz
       subst hz
       have hy' := (h2 y).1 hy
       have := hle y hy'
       rcases List.le_iff_lt_or_eq.1 this with h | h
       · exact h
       · subst h; exact absurd hy' hnm
     · rw [htk, List.mem_append, List.mem_append, h2]
   · rw [if_neg hk, List.append_nil]
     refine ⟨h1, fun y => ?_⟩
     rw [htk, List.mem_append, h2, List.mem_singleton]
     refine ⟨.inl, fun h => ?_⟩
     rcases h with h | h
     · exact h
     · subst h
       cases m with
       | zero => exact absurd (Go.Lib.keeps_lt_one _ 0 (by omega)) hk
       | succ j =>
         have hj : j < zs.length := by omega
         have he : zs[j] = zs[j + 1] := by
           unfold Go.Lib.keeps at hk
           simp [hj, hlt] at hk
           first | exact hk | exact hk.symm
         rw [← he]
         exact List.mem_iff_getElem.2 ⟨j, by rw [List.length_take]; omega, by rw [List.getElem_take]⟩
theorem sort_le (l : List (List UInt8)) : (l.mergeSort fun x y => decide (x ≤ y)).Pairwise (· ≤ ·) := by
 have h : (l.mergeSort fun x y => decide (x ≤ y)).Pairwise (fun x y => decide (x ≤ y) = true) := by
   refine List.pairwise_mergeSort ?_ ?_ _
   · intro a b c h1 h2
     simp only [decide_eq_true_eq] at h1 h2 ⊢
     exact List.le_trans h1 h2
   · intro a b
     simp only [Bool.or_eq_true, decide_eq_true_eq]
     exact List.le_total a b
 exact h.imp fun h => by simpa using h
def NmR (ss ns ss' : List (List UInt8)) : Prop := ss'.Pairwise (· < ·) ∧ (∀ y, y ∈ ss' ↔ y ∈ ss ∨ y ∈ ns) ∧ ss'.length ≤ ss.length + ns.length
theorem nmR_top (t : T) (ss' : List (List UInt8)) (h : NmR [] (vnk (pre t t)) ss') : ss' = nmL t := by
 obtain ⟨h1, h2, _⟩ := h
 have hs := sort_le (vnk (pre t t))
 have hc := comp_srt _ hs _ (Nat.le_refl _)
 unfold nmL Go.Lib.compact
 refine srt_uniq h1 hc.1 fun y => ?_
 rw [h2, hc.2, List.take_length, (List.mergeSort_perm _ _).mem_iff]
 simp
theorem nmR_refl (ss : List (List UInt8)) (h : ss.Pairwise (· < ·)) : NmR ss [] ss := ⟨h, fun y => by simp, by simp⟩
theorem nmR_trans {a b c m n : List (List UInt8)} (h : NmR a m b) (k : NmR b n c) : NmR a (m ++ n) c :=
 ⟨k.1, fun y => by rw [k.2.1, h.2.1, List.mem_append, or_assoc], by have := h.2.2; have := k.2.2; rw [List.length_append]; omega⟩
theorem nmR_in {ss : List (List UInt8)} {x : List UInt8} (h : ss.Pairwise (· < ·)) (hx : x ∈ ss) : NmR ss [x] ss :=
 ⟨h, fun y => ⟨.inl, fun hy => hy.elim id (fun e => by rw [List.mem_singleton] at e; rw [e]; exact hx)⟩, by omega⟩
theorem nmR_ins {ss : List (List UInt8)} {x : List UInt8} (h : ss.Pairwise (· < ·)) (i : Nat) (h1 : ∀ y ∈ ss.take i, y < x) (h2 : ∀ y ∈ ss.drop i, x < y) : NmR ss [x] (ss.take i ++ x :: ss.drop i) := by
 refine ⟨?_, fun y => ?_, by simp; omega⟩
 · rw [← List.take_append_drop i ss, List.pairwise_append] at h
   rw [List.pairwise_append]
   refine ⟨h.1, List.pairwise_cons.2 ⟨h2, h.2.1⟩, fun y hy z hz => ?_⟩
   rcases List.mem_cons.1 hz with rfl | hz
   · exact h1 y hy
   · exact h.2.2 y hy z hz
 · have : y ∈ ss ↔ y ∈ ss.take i ∨ y ∈ ss.drop i := by rw [← List.mem_append, List.take_append_drop]
   rw [this, List.mem_append, List.mem_cons, List.mem_singleton]
   constructor
   · rintro (h | h | h)
     · exact .inl (.inl h)
     · exact .inr h
     · exact .inl (.inr h)
   · rintro ((h | h) | h)
     · exact .inl h
     · exact .inr (.inr h)
     · exact .inr (.inl h)
theorem vnk_app (a b : List (T × T)) : vnk (a ++ b) = vnk a ++ vnk b := by unfold vnk; rw [List.filter_append, List.map_append]
def vnK (ks : List T) : List (List UInt8) := vnk (ks.flatMap fun x => pre x x)
theorem vnK_snoc (l : List T) (x : T) : vnK (l ++ [x]) = vnK l ++ vnk (pre x x) := by unfold vnK; rw [List.flatMap_append, vnk_app]; simp
theorem vnk_eq (t : T) : vnk (pre t t) = (if t.kind = 2 then [t.name] else []) ++ vnK t.kids := by
 rw [pre_self]
 unfold vnK vnk
 by_cases h : t.kind = 2
 · rw [List.filter_cons_of_pos (by simpa using h), if_pos h]; rfl
 · rw [List.filter_cons_of_neg (by simpa using h), if_neg h]; rfl
theorem vnK_le (l : List T) : (vnK l).length ≤ sK l := vnk_le _
theorem drop_gt {ss : List (List UInt8)} (h : ss.Pairwise (· < ·)) {i : Nat} (hi : i < ss.length) {x : List UInt8} (h1 : ¬ ss[i] < x) (h2 : ss[i] ≠ x) : ∀ y ∈ ss.drop i, x < y := by
 have hx : x < ss[i] := by
   rcases List.le_iff_lt_or_eq.1 (List.not_lt.1 h1) with h | h
   · exact h
   · exact absurd h.symm h2
 intro y hy
 obtain ⟨j, hj, rfl⟩ := List.mem_iff_getElem.1 hy
 rw [List.getElem_drop]
 by_cases h0 : j = 0
 · subst h0; exact hx
 · exact List.lt_trans hx ((List.pairwise_iff_getElem.1 h) i (i + j) hi (by rw [List.length_drop] at hj; omega) (by omega))
end E
def KN (w w' : World) : Prop := ∀ (k : Nat) (o : Obj), w.heap[k]? = some o → notS (some o) = true → w'.heap[k]? = some o
theorem KN.trans {a b c : World} (h : KN a b) (k : KN b c) : KN a c := fun i o h1 h2 => k i o (h i o h1 h2) h2
theorem KN.of {a b : World} (h : Below a.heap.size a b) : KN a b := fun k _ h1 _ => (h.block k (Array.getElem?_eq_some_iff.1 h1).1).trans h1
theorem KN.own {w w' : World} {B : Nat} {v : Value} {ss : List (List UInt8)} (ho : OwnN w B v ss) (hg : w.grownBy w' v.ownBlock) : KN w w' := fun _ _ h1 h2 => ho.stay hg h1 h2
theorem elemSize57 (w : World) : (sizeOf (Tryz.prog.elem 57)).run Tryz.prog w = .ok 1 w := by kernel_rfl
def cutP (g cap k : Nat) : Option Addr := if cap = k then some ⟨g, 0, none⟩ else some ⟨g, k, none⟩
set_option maxRecDepth 100000 in
theorem cut_fromN (g n cap k : Nat) (hk : k ≤ n) (wx : World) : (Instr.sliceAt 57 (.slice (some ⟨g, 0, none⟩) n cap) (some (.int .i64 (k : Int))) none none).run Tryz.prog wx = .ok (.slice (cutP g cap k) (n - k) (cap - k)) wx := by
 rw [run_sliceAt_slice (P := Tryz.prog) wx 57 _ _ _ _ Tryz.underlying57, run_slice_l (P := Tryz.prog) (w := wx) 57 (some ⟨g, 0, none⟩) n cap Tryz.underlying57 .i64 (k : Int) (by omega) (by omega), elemSize57]
 simp only [Result.andThen, sliced, Int.toNat_natCast, cutP, Option.map_some, Addr.add_mid, Nat.mul_one, Nat.zero_add]
theorem Reg.sl {P : Program} {w : World} {ρ : Operand → Value} {o : Oper} {t : TypeId} {x y : Operand} {vx vy u : Value} (hop : o.op = .slice t x (some y) none none) (hx : ρ x = vx) (hy : ρ y = vy) (h : (Instr.sliceAt t vx (some vy) none none).run P w = .ok u w) : (execOp ρ o).run P w = .ok (.value u) w := by
 obtain ⟨dst, op, type, pos, after, guard⟩ := o
 simp only at hop
 subst hop
 simp [execOp, hx, hy, h, Result.andThen]
theorem Reg.cpy {P : Program} {w w' : World} {ρ : Operand → Value} {o : Oper} {t u : TypeId} {x y : Operand} {vx vy v : Value} (hop : o.op = .call { callee := .builtin .copy, args := #[x, y], argTypes := #[t, u] }) (hx : ρ x = vx) (hy : ρ y = vy)
   (h : (Builtin.copy_ #[t, u] o.type #[vx, vy]).run P w = .ok v w') : (execOp ρ o).run P w = .ok (.value v) w' := by
 obtain ⟨dst, op, type, pos, after, guard⟩ := o
 simp only at hop h
 subst hop
 simp [execOp, resolve, invoke, builtin, hx, hy, h, Result.andThen]
theorem Reg.adI {w : World} {ρ : Operand → Value} {o : Oper} {x y : Operand} {m n c : Int} (hop : o.op = .binOp .add 3 x y 3) (hx : ρ x = .int .i64 m) (hy : ρ y = .int .i64 n) (h : IntKind.i64.wrap (m + n) = c) : (execOp ρ o).run Tryz.prog w = .ok (.value (.int .i64 c)) w := by
 obtain ⟨dst, op, type, pos, after, guard⟩ := o
 simp only at hop
 subst hop
 simp [execOp, hx, hy, eqGuard, h, go_sem]
theorem Reg.mv7 {w : World} {ρ : Operand → Value} {o : Oper} {x : Operand} {v : Value} (hop : o.op = .move x) (hx : ρ x = v) : (execOp ρ o).run Tryz.prog w = .ok (.value v) w := by
 obtain ⟨dst, op, type, pos, after, guard⟩ := o
 simp only at hop
 subst hop
 simp [execOp, hx]
theorem ins_mem (ty : TypeId) {w : World} {g n cap i : Nat} {cur : Array Value} {fs : List (List UInt8)} {z : Value} (hn : n = fs.length) (hg : w.heap[g]? = some (.cells cur 9 (0, 0))) (htk : cur.toList.take (n + 1) = fs.map encStr ++ [z]) (hsz : cur.size = cap) (hle : n + 1 ≤ cap) (hi : i ≤ n) :
   ∃ v w' cur' z', (Builtin.copy_ #[57, 57] ty #[.slice (cutP g cap (i + 1)) (n + 1 - (i + 1)) (cap - (i + 1)), .slice (cutP g cap i) (n + 1 - i) (cap - i)]).run Tryz.prog w = .ok v w' ∧ w'.heap[g]? = some (.cells cur' 9 (0, 0)) ∧ cur'.size = cap ∧ cur'.toList.take (n + 1) = (fs.take i).map encStr ++ z' :: (fs.drop i).map encStr ∧ U.Chg (fun k => k = g) w w' := by
 subst hn
 by_cases hin : i = fs.length
 · subst hin
   refine ⟨_, w, cur, z, run_copy_none w 57 57 ty 9 _ _ _ _ _ _ Tryz.underlying57 (by kernel_rfl) (by simp), hg, hsz, ?_, ⟨rfl, rfl, rfl, Nat.le_refl _, fun _ _ _ => rfl⟩⟩
   rw [htk, List.take_length, List.drop_length]
   rfl
 · have hlt : i < fs.length := by omega
   have e1 : cutP g cap (i + 1) = some ⟨g, i + 1, none⟩ := by unfold cutP; rw [if_neg (by omega)]
   have e2 : cutP g cap i = some ⟨g, i, none⟩ := by unfold cutP; rw [if_neg (by omega)]
   have hcs : ((fs.drop i).map encStr).length = fs.length - i := by simp
   have hcur : ∀ j (hj : j < fs.length), cur[j]? = some (encStr fs[j]) := fun j hj => by
     have h1 : (cur.toList.take (fs.length + 1))[j]? = (fs.map encStr ++ [z])[j]? := by rw [htk]
     rw [List.getElem?_take, if_pos (by omega), List.getElem?_append_left (by simpa using hj)] at h1
     simpa [hj] using h1
   have hrun := run_copy_row (P := Tryz.prog) w 57 57 ty 9 g (i + 1) (fs.length + 1 - (i + 1)) (cap - (i + 1)) ⟨g, i, none⟩ (fs.length + 1 - i) (cap - i) cur 9 ((fs.drop i).map encStr) Tryz.underlying57 (by kernel_rfl) hg
     (by rw [hcs]; show _ = min _ _; omega)
     (fun j v hv => by
       have hj : j < fs.length - i := by
         have := (List.getElem?_eq_some_iff.1 hv).1
         rw [hcs] at this
         exact this
       rw [Addr.add_mid]
       refine U.cell_at hg ?_
       rw [hcur (i + j) (by omega), ← hv]
       simp [List.getElem?_drop, List.getElem?_eq_getElem (show i + j < fs.length by omega)])
     (by rw [hcs]; omega) (fun v hv => by obtain ⟨x, _, rfl⟩ := List.mem_map.1 hv; rfl)
   rw [e1, e2]
   refine ⟨_, _, _, encStr fs[i], hrun, setRow_heap w g cur _ 9 _ hg, ?_, ?_, ⟨rfl, rfl, rfl, by simp [World.setRow], fun k hk hne => setRow_other w g k _ hne⟩⟩
   · simp
     omega
   · have e3 : cur.toList.take (i + 1) = (fs.take i).map encStr ++ [encStr fs[i]] := by
       have : cur.toList.take (i + 1) = (cur.toList.take (fs.length + 1)).take (i + 1) := by rw [List.take_take, Nat.min_eq_left (by omega)]
       rw [this, htk, List.take_append_of_le_length (by rw [List.length_map]; omega), List.take_succ_eq_append_getElem (by rw [List.length_map]; exact hlt), List.getElem_map, List.map_take]
     simp only [List.append_assoc]
     rw [← List.append_assoc, List.take_append_of_le_length (by rw [List.length_append, hcs, List.length_take]; simp; omega), List.take_of_length_le (by rw [List.length_append, hcs, List.length_take]; simp; omega), e3]
     simp
theorem ins_store {w : World} {B g n cap i : Nat} {cur : Array Value} {fs : List (List UInt8)} {z : Value} (r : List UInt8) (hn : n = fs.length) (hi : i ≤ n) (hB : B ≤ g) (hg : w.heap[g]? = some (.cells cur 9 (0, 0))) (hsz : cur.size = cap) (hle : n + 1 ≤ cap) (hmx : cap ≤ maxLen) (htk : cur.toList.take (n + 1) = (fs.take i).map encStr ++ z :: (fs.drop i).map encStr) :
   OwnN (w.setCell ⟨g, i, none⟩ (encStr r)) B (.slice (some ⟨g, 0, none⟩) (n + 1) cap) (fs.take i ++ r :: fs.drop i) := by
 subst hn
 have hl : (fs.take i ++ r :: fs.drop i).length = fs.length + 1 := by simp; omega
 unfold OwnN
 rw [hl]
 refine ⟨by simp; omega, .inr ⟨g, cap, _, rfl, hB, (U.set_at _ hg), hle, hmx, by simp [hsz], ?_⟩⟩
 rw [Nat.mul_one, Array.toList_setIfInBounds, List.take_set, htk, List.set_append_right _ _ (by simp; omega)]
 simp only [List.length_map, List.length_take, Nat.min_eq_left hi, Nat.sub_self, List.set_cons_zero, List.map_append, List.map_cons]
theorem one_newS (w : World) (x : Value) (t : TypeId) : ∀ j u, [x][j]? = some u → (w.alloc (.cells #[x] t)).cell? ((⟨w.heap.size, 0, none⟩ : Addr).add j) = some u := by
 intro j u hj
 rw [Addr.add_mid]
 match j, hj with
 | 0, hj => simp at hj; subst hj; exact (Boxed.new w t x).cell
 | j + 1, hj => simp at hj
theorem ownN_cells {w : World} {B n : Nat} {v : Value} {ss : List (List UInt8)} (ho : OwnN w B v ss) (hn : ss.length = n) : ∃ ao cap, v = .slice ao n cap ∧ ∀ j (hj : j < ss.length), ∃ g, ao = some ⟨g, 0, none⟩ ∧ ∀ W : World, OwnN W B v ss → W.cell? ⟨g, j, none⟩ = some (encStr ss[j]) := by
 subst hn
 obtain ⟨_, ⟨rfl, h0⟩ | ⟨g, cap, cur, rfl, _⟩⟩ := ho
 · exact ⟨none, 0, by rw [h0], fun j hj => by omega⟩
 · refine ⟨_, _, rfl, fun j hj => ⟨g, rfl, fun W hW => ?_⟩⟩
   obtain ⟨_, ⟨h1, _⟩ | ⟨g', cap', cur', h1, _, h2, h3, h4, h5, h6⟩⟩ := hW
   · cases h1
   · cases h1
     refine U.cell_at h2 ?_
     have h7 : (cur'.toList.take (ss.length * 1))[j]? = (ss.map encStr)[j]? := by rw [h6]
     rw [List.getElem?_take, if_pos (by omega)] at h7
     simpa [hj] using h7
theorem ins_frame {B g n cap i : Nat} {ao : Option Addr} {ss : List (List UInt8)} {wr w1 w2 : World} {cur : Array Value} {o : Obj} (x : Value) (ho : OwnN wr B (.slice ao n cap) ss) (hB : B ≤ wr.heap.size) (hgrow : (wr.alloc o).grownBy w1 (Value.ownBlock (.slice ao n cap))) (hg : w1.heap[g]? = some (.cells cur 9 (0, 0))) (hBg : B ≤ g) (hch : U.Chg (fun k => k = g) w1.drew w2) :
   KN wr w2 ∧ KN wr (w2.setCell ⟨g, i, none⟩ x) ∧ Below B wr (w2.setCell ⟨g, i, none⟩ x) := by
 have h1 : KN wr w1 := (KN.of (al1 wr o)).trans (KN.own (ho.alloc o) hgrow)
 have b1 : Below B wr w1 := ((al1 wr o).mono hB).trans ((ho.alloc o).bel hgrow (by simp; omega))
 have hgl : g < w1.heap.size := (Array.getElem?_eq_some_iff.1 hg).1
 have h2 : KN w1 w2 := fun k o' e1 e2 => by
   by_cases hk : k = g
   · subst hk; rw [hg] at e1; cases e1; cases e2
   · exact (hch.block k (Array.getElem?_eq_some_iff.1 e1).1 hk).trans e1
 have b2 : Below B w1 w2 := ⟨hch.os, hch.tape, hch.output, hch.size, fun k hk => hch.block k (by show k < w1.heap.size; omega) (by omega)⟩
 have h3 : KN w1 (w2.setCell ⟨g, i, none⟩ x) := fun k o' e1 e2 => by
   by_cases hk : k = g
   · subst hk; rw [hg] at e1; cases e1; cases e2
   · exact (Below.heap_setCell _ _ _ _ hk).trans (h2 k o' e1 e2)
 exact ⟨h1.trans h2, h1.trans h3, b1.trans (b2.setCell hBg _)⟩
def NmP (t : T) : Prop := ∀ (B : Nat) (w0 : World) (d : ND) (w : World) (v : Value) (ss : List (List UInt8)), w0.heap.size = B → Below B w0 w → TR w0 (fun _ => True) t d.v → OwnN w B v ss → ss.Pairwise (· < ·) → ss.length + sz t ≤ 1000000 →
 Calls Tryz.prog 64 #[d.v, v] w fun e w' => ∃ u ss', e = .returned u ∧ OwnN w' B u ss' ∧ E.NmR ss (E.vnk (E.pre t t)) ss' ∧ Below B w0 w' ∧ KN w w'
set_option maxRecDepth 100000 in
set_option maxHeartbeats 4000000 in
theorem names_step (k a : Int) (s : E.Rs) (nm : List UInt8) (ks : List T) (hnl : nm.length ≤ 100000) (ih : ∀ t ∈ ks, NmP t) : NmP (.mk k a s nm ks) := by
 intro B w0 d w v ss hW hBW hd ho hp hz
 have HW := hide hW
 have HBW := hide hBW
 have HSZ : Hid (ss.length + (1 + sK ks) ≤ 1000000) := hide (by have := sz_eq (.mk k a s nm ks); simp only [E.T.kids] at this; omega)
 have hn6 : ss.length ≤ 1000000 := by omega
 have hkl : ks.length ≤ 1000000 := by
   have h1 : ∀ l : List T, l.length ≤ sK l := fun l => by
     induction l with
     | nil => simp
     | cons x l ih =>
       unfold sK at ih ⊢
       rw [List.flatMap_cons, List.length_append, List.length_cons, E.pre_eq, List.length_cons]
       omega
   have := h1 ks
   have := HSZ.out
   omega
 have HP := hide hp
 have HO0 := hide ho
 rw [TR] at hd
 obtain ⟨sp, sc, kp, kc, e1, _, hk1, hkr1⟩ := hd
 rw [e1]
 clear e1 hz hp ho hBW hW
 have a1 := al1 w (.cells #[.int .i64 k, .int .i64 a, .slice sp s.length sc, .string ⟨nm.toArray⟩, .slice kp ks.length kc] 26)
 have n1 := heap_alloc_new w (.cells #[.int .i64 k, .int .i64 a, .slice sp s.length sc, .string ⟨nm.toArray⟩, .slice kp ks.length kc] 26)
 obtain ⟨X1, hX1⟩ : ∃ X1, w.alloc (.cells #[.int .i64 k, .int .i64 a, .slice sp s.length sc, .string ⟨nm.toArray⟩, .slice kp ks.length kc] 26) = X1 := ⟨_, rfl⟩
 have ho1 : OwnN X1 B v ss := by rw [← hX1]; exact HO0.out.alloc _
 rw [hX1] at a1 n1
 have hbs : B ≤ w.heap.size := by have := HBW.out.size; have := HW.out; omega
 have hb1 : Below B w0 X1 := HBW.out.trans (a1.mono hbs)
 have hkn1 : KN w X1 := KN.of a1
 obtain ⟨c0, c1, c2, c3, c4⟩ := cells_five n1
 have HV0 := hide (E.vnk_eq (.mk k a s nm ks))
 simp only [E.T.kind, E.T.name, E.T.kids] at HV0
 by_cases hk : k = 2
 · subst hk
   have HV : Hid (E.vnk (E.pre (.mk 2 a s nm ks) (.mk 2 a s nm ks)) = [nm] ++ E.vnK ks) := hide (by rw [HV0.out]; simp)
   obtain ⟨i0, hi0, hz0, hz1, hz2⟩ := info_parts9 info9N
   obtain ⟨n, hn⟩ : ∃ n, ss.length = n := ⟨_, rfl⟩
   have HN : Hid (n = ss.length) := hide hn.symm
   obtain ⟨ao, cap, rfl, hcell⟩ : ∃ ao cap, v = .slice ao n cap ∧ ∀ j (hj : j < ss.length), ∃ g, ao = some ⟨g, 0, none⟩ ∧ ∀ W : World, OwnN W B v ss → W.cell? ⟨g, j, none⟩ = some (encStr ss[j]) := ownN_cells ho1 hn
   have HOB := hide ho1
   rw [hn] at hn6
   clear ho1 hn
   have HB1 := hide hb1
   have HK1 := hide hkn1
   have HBS := hide hbs
   have hXl : w.heap.size < X1.heap.size := (Array.getElem?_eq_some_iff.1 n1).1
   clear hb1 hkn1 hbs a1
   go_enter Tryz.func64, Tryz.ntmps64
   go_wp2
   go_loopw [5] (fun u wr => ∃ i : Nat, u = .int .i64 (i : Int) ∧ i ≤ n ∧ Hid (∀ x ∈ ss.take i, x < nm) ∧ Hid (OwnN wr B (.slice ao n cap) ss) ∧ wr.heap[w.heap.size]? = some (.cells #[.int .i64 2, .int .i64 a, .slice sp s.length sc, .string ⟨nm.toArray⟩, .slice kp ks.length kc] 26) ∧ Hid (Below B w0 wr) ∧ w.heap.size < wr.heap.size ∧ Hid (KN w wr)) (fun u _ => n - (intOf u).toNat)
   case atStart => exact ⟨0, rfl, Nat.zero_le _, hide (fun x hx => by simp at hx), HOB, n1, HB1, hXl, HK1⟩
   case round =>
     obtain ⟨i, rfl, hin, HL, HO, m1, HB, hwl, HK⟩ := hrel
     clear c0 c1 c2 c3 c4 n1 HB1 HK1 hXl HOB hX1
     obtain ⟨c0, c1, c2, c3, c4⟩ := cells_five m1
     by_cases hlt : i < n
     · have hlf : i < ss.length := by rw [← HN.out]; exact hlt
       obtain ⟨b, rfl, hd0⟩ := hcell i hlf
       have hd := hd0 wr HO.out
       have HX : Hid (ss.take (i + 1) = ss.take i ++ [ss[i]]) := hide (List.take_succ_eq_append_getElem hlf)
       have HDG := hide (fun x h1 h2 => E.drop_gt HP.out hlf (x := x) h1 h2)
       have HM := hide (List.getElem_mem hlf)
       have en := elemSize57
       clear hd0 hcell
       generalize ss[i] = x at *
       by_cases h1 : x < nm
       · have e1 : Op.bytesLess x nm = true := by rw [_root_.Go.Proofs.bytesLess_eq]; exact decide_eq_true h1
         have HL2 : Hid (∀ y ∈ ss.take (i + 1), y < nm) := hide (fun y hy => by rw [HX.out] at hy; exact (List.mem_append.1 hy).elim (HL.out y) (fun h => by rw [List.mem_singleton] at h; rw [h]; exact h1))
         clear h1 HX HDG HM HL
         go_wp2_with fail
         go_quiet (fail)
         have hO2 : Hid (OwnN (wr.drewN nq) B (.slice (some ⟨b, 0, none⟩) n cap) ss) := HO
         have m2 : (wr.drewN nq).heap[w.heap.size]? = _ := m1
         have HB2 : Hid (Below B w0 (wr.drewN nq)) := hide (_root_.Go.below_drewN HB.out nq)
         have HK2 : Hid (KN w (wr.drewN nq)) := HK
         have hw2 : w.heap.size < (wr.drewN nq).heap.size := hwl
         clear HO m1 HB HK hwl c0 c1 c2 c3 c4 hd
         generalize wr.drewN nq = W2 at *
         go_wp2
         go_roundw
         case rel => exact ⟨i + 1, by go_num, by omega, HL2, hO2, m2, HB2, hw2, HK2⟩
         case measure => simp [intOf]; omega
       · have e1 : Op.bytesLess x nm = false := by rw [_root_.Go.Proofs.bytesLess_eq]; exact decide_eq_false h1
         have e5 : ((i : Int) == (n : Int)) = false := by simp; omega
         have e6 : (i == n) = false := by simp; omega
         have e7 : decide (i = n) = false := decide_eq_false (by omega)
         by_cases h2 : x = nm
         · subst h2
           obtain ⟨NS, hNS⟩ : ∃ NS : List (List UInt8), NS = [x] := ⟨_, rfl⟩
           have HV : Hid (E.vnk (E.pre (.mk 2 a s x ks) (.mk 2 a s x ks)) = NS ++ E.vnK ks) := hide (by rw [HV.out, hNS])
           have HNS : Hid (NS.length ≤ 1) := hide (by rw [hNS]; simp)
           have HR0 : Hid (E.NmR ss NS ss) := hide (by rw [hNS]; exact E.nmR_in HP.out HM.out)
           clear hNS h1 HX HDG HM HL
           go_wp2_with fail
           go_quiet (fail)
           have hO_ : Hid (OwnN (wr.drewN nq) B (.slice (some ⟨b, 0, none⟩) n cap) ss) := HO
           have m_ : (wr.drewN nq).heap[w.heap.size]? = _ := m1
           have HB_ : Hid (Below B w0 (wr.drewN nq)) := hide (_root_.Go.below_drewN HB.out nq)
           have HK_ : Hid (KN w (wr.drewN nq)) := HK
           have hw_ : w.heap.size < (wr.drewN nq).heap.size := hwl
           have hd_ : (wr.drewN nq).cell? ⟨b, i, none⟩ = _ := hd
           clear hd
           have hd := hd_
           clear HO m1 HB HK hwl c0 c1 c2 c3 c4
           have HO := hO_
           have m1 := m_
           have HB := HB_
           have HK := HK_
           have hwl := hw_
           clear hO_ m_ HB_ HK_ hw_ hd_
           generalize wr.drewN nq = W2 at *
           obtain ⟨c0, c1, c2, c3, c4⟩ := cells_five m1
           go_wp2_with fail
           go_quiet (fail)
           have hO_ : Hid (OwnN (W2.drewN nq) B (.slice (some ⟨b, 0, none⟩) n cap) ss) := HO
           have m_ : (W2.drewN nq).heap[w.heap.size]? = _ := m1
           have HB_ : Hid (Below B w0 (W2.drewN nq)) := hide (_root_.Go.below_drewN HB.out nq)
           have HK_ : Hid (KN w (W2.drewN nq)) := HK
           have hw_ : w.heap.size < (W2.drewN nq).heap.size := hwl
           have hd_ : (W2.drewN nq).cell? ⟨b, i, none⟩ = _ := hd
           clear hd
           have hd := hd_
           clear HO m1 HB HK hwl c0 c1 c2 c3 c4
           have HO := hO_
           have m1 := m_
           have HB := HB_
           have HK := HK_
           have hwl := hw_
           clear hO_ m_ HB_ HK_ hw_ hd_
           generalize W2.drewN nq = W3 at *
           obtain ⟨c0, c1, c2, c3, c4⟩ := cells_five m1
           have PO := HO
           have p1 := m1
           have PB := HB
           have PK := HK
           clear HO m1 HB HK hwl hd
           go_wp2
           go_loopw [1, 6] (fun p u wr => ∃ (sr : List (List UInt8)) (i : Nat), u = .int .i64 (i : Int) ∧ i ≤ ks.length ∧ Hid (E.NmR ss (NS ++ E.vnK (ks.take i)) sr) ∧ Hid (OwnN wr B p sr) ∧ wr.heap[w.heap.size]? = some (.cells #[.int .i64 2, .int .i64 a, .slice sp s.length sc, .string ⟨x.toArray⟩, .slice kp ks.length kc] 26) ∧ Hid (Below B w0 wr) ∧ w.heap.size < wr.heap.size ∧ Hid (KN w wr)) (fun _ u _ => ks.length - (intOf u).toNat)
           case atStart => exact ⟨_, 0, rfl, Nat.zero_le _, hide (by rw [List.take_zero, show E.vnK [] = [] from rfl, List.append_nil]; exact HR0.out), hide PO.out, p1, hide PB.out, (Array.getElem?_eq_some_iff.1 p1).1, hide PK.out⟩
           case round =>
             obtain ⟨sr, i, rfl, hi, HR, HO, m1, HB, hwl, HK⟩ := hrel
             clear c0 c1 c2 c3 c4 p1 PO PB PK
             obtain ⟨c0, c1, c2, c3, c4⟩ := cells_five m1
             by_cases hlt : i < ks.length
             · obtain ⟨b, off, v, hkp, ht1, hc1⟩ := KR.get _ 0 hkr1 i hlt
               obtain ⟨d1, rfl⟩ := ht1.ndD
               subst hkp
               rw [Nat.zero_add] at hc1
               have hl1 := cells5_lt hc1
               have HX : Hid (E.vnK (ks.take (i + 1)) = E.vnK (ks.take i) ++ E.vnk (E.pre ks[i] ks[i])) := hide (by rw [List.take_succ_eq_append_getElem hlt, E.vnK_snoc])
               have hbd : sr.length + sz ks[i] ≤ 1000000 := by
                 have h1 := HR.out.2.2
                 rw [List.length_append] at h1
                 have h2 := E.vnK_le (ks.take i)
                 have h3 : sK (ks.take (i + 1)) = sK (ks.take i) + sz ks[i] := by rw [List.take_succ_eq_append_getElem hlt, sK_snoc]
                 have h4 := sK_le (ks.take (i + 1)) (ks.drop (i + 1))
                 rw [List.take_append_drop] at h4
                 have := HNS.out
                 have := HSZ.out
                 omega
               have hcl := ih ks[i] (List.getElem_mem hlt) B w0 d1 wr _ sr HW.out HB.out ht1 HO.out HR.out.1 hbd
               obtain ⟨y0, y1, y2, y3, y4, ev, g0, g1, g2, g3, g4⟩ := hc1
               unfold ND.v at hcl ev
               simp only [Value.agg.injEq, Array.mk.injEq, List.cons.injEq, and_true] at ev
               obtain ⟨rfl, rfl, rfl, rfl, rfl⟩ := ev
               have hcb : ∀ j, wr.cell? ⟨b, j, none⟩ = w0.cell? ⟨b, j, none⟩ := fun j => World.cell?_of_block (w := w0) (a := ⟨b, j, none⟩) (HB.out.block b (by have := HW.out; omega))
               rw [← hcb] at g0 g1 g2 g3 g4
               clear ht1 hcb hbd
               go_wp2_with fail
               with_reducible refine hcl.mono ?_
               rintro e W4 ⟨u4, s4, rfl, ho4, hr4, hb4, hk4⟩
               have M1 := hide (hk4 _ _ m1 rfl)
               have HR2 : Hid (E.NmR ss (NS ++ E.vnK (ks.take (i + 1))) s4) := hide (by rw [HX.out, ← List.append_assoc]; exact E.nmR_trans HR.out hr4)
               have HO2 := hide ho4
               have HB2 := hide hb4
               have HK2 := hide (HK.out.trans hk4)
               have hwl4 : w.heap.size < W4.heap.size := (Array.getElem?_eq_some_iff.1 M1.out).1
               clear m1 hcl ho4 hr4 hb4 hk4 c0 c1 c2 c3 c4 g0 g1 g2 g3 g4
               go_wp2
               go_roundw
               case rel => exact ⟨_, i + 1, by go_num, by omega, HR2, HO2, M1.out, HB2, hwl4, HK2⟩
               case measure => simp [intOf]; omega
             · obtain rfl : i = ks.length := by omega
               have HF : Hid (E.NmR ss (E.vnk (E.pre (.mk 2 a s x ks) (.mk 2 a s x ks))) sr) := hide (by have h := HR.out; rw [List.take_length] at h; rw [HV.out]; exact h)
               go_wp2
               go_ret
               exact ⟨_, _, rfl, HO.out, HF.out, HB.out, HK.out⟩
         · have e8 : (x == nm) = false := by simpa using h2
           have HINS := hide (E.nmR_ins HP.out i HL.out (HDG.out nm h1 h2))
           clear h1 h2 HX HDG HM
           go_wp2_with fail
           go_quiet (fail)
           have hO_ : Hid (OwnN (wr.drewN nq) B (.slice (some ⟨b, 0, none⟩) n cap) ss) := HO
           have m_ : (wr.drewN nq).heap[w.heap.size]? = _ := m1
           have HB_ : Hid (Below B w0 (wr.drewN nq)) := hide (_root_.Go.below_drewN HB.out nq)
           have HK_ : Hid (KN w (wr.drewN nq)) := HK
           have hw_ : w.heap.size < (wr.drewN nq).heap.size := hwl
           have hd_ : (wr.drewN nq).cell? ⟨b, i, none⟩ = _ := hd
           clear hd
           have hd := hd_
           clear HO m1 HB HK hwl c0 c1 c2 c3 c4
           have HO := hO_
           have m1 := m_
           have HB := HB_
           have HK := HK_
           have hwl := hw_
           clear hO_ m_ HB_ HK_ hw_ hd_
           generalize wr.drewN nq = W2 at *
           obtain ⟨c0, c1, c2, c3, c4⟩ := cells_five m1
           go_wp2_with fail
           go_quiet (fail)
           have hO_ : Hid (OwnN (W2.drewN nq) B (.slice (some ⟨b, 0, none⟩) n cap) ss) := HO
           have m_ : (W2.drewN nq).heap[w.heap.size]? = _ := m1
           have HB_ : Hid (Below B w0 (W2.drewN nq)) := hide (_root_.Go.below_drewN HB.out nq)
           have HK_ : Hid (KN w (W2.drewN nq)) := HK
           have hw_ : w.heap.size < (W2.drewN nq).heap.size := hwl
           have hd_ : (W2.drewN nq).cell? ⟨b, i, none⟩ = _ := hd
           clear hd
           have hd := hd_
           clear HO m1 HB HK hwl c0 c1 c2 c3 c4
           have HO := hO_
           have m1 := m_
           have HB := HB_
           have HK := HK_
           have hwl := hw_
           clear hO_ m_ HB_ HK_ hw_ hd_
           generalize W2.drewN nq = W3 at *
           obtain ⟨c0, c1, c2, c3, c4⟩ := cells_five m1
           obtain ⟨NS, hNS⟩ : ∃ NS : List (List UInt8), NS = [nm] := ⟨_, rfl⟩
           have HV : Hid (E.vnk (E.pre (.mk 2 a s nm ks) (.mk 2 a s nm ks)) = NS ++ E.vnK ks) := hide (by rw [HV.out, hNS])
           have HNS : Hid (NS.length ≤ 1) := hide (by rw [hNS]; simp)
           have HR0 : Hid (E.NmR ss NS (ss.take i ++ nm :: ss.drop i)) := hide (by rw [hNS]; exact HINS.out)
           have hBl : B ≤ W3.heap.size := by have := HBS.out; omega
           have hOa : (W3.alloc (.cells #[.string ByteArray.empty] 9)).ownsRow B 9 1 (.slice (some ⟨b, 0, none⟩) n cap) n (ss.map encStr) := by
             have h := OwnN.alloc HO.out (.cells #[.string ByteArray.empty] 9)
             unfold OwnN at h
             rw [← HN.out] at h
             exact h
           clear hNS HINS
           go_wp2_with (at_builtin; (refine wpList_append_own_at _ rfl _ _ 57 rfl B 9 i0 (.string ByteArray.empty) 1 16 Tryz.underlying57 hi0 hz0 hz1 hz2 rfl (by decide) _ _ _ rfl hOa ⟨W3.heap.size, 0, none⟩ 1 1 [.string ByteArray.empty] rfl rfl (one_newS _ _ _) (by simp [Value.oneCell']) (by unfold maxLen; omega) (by omega) (by simp; omega) ?_; intro v1 w1 hown' hgrow _ hat; obtain ⟨hxl, ⟨hv, hn0⟩ | ⟨g, cap1, cur, rfl, hBg, hg, hle, hmx, hsz, htk⟩⟩ := hown'; (exact absurd hn0 (by omega))))
           rw [Nat.mul_one] at hsz htk
           obtain ⟨vc, w2, cur2, z2, hcp, hg2, hsz2, htk2, hch2⟩ := ins_mem 3 (w := w1.drew) HN.out hg htk hsz hle hin
           have hii : IntKind.i64.wrap ((i : Int) + 1) = (i : Int) + 1 := by simp [IntKind.wrap, IntKind.bits, IntKind.signed]; omega
           obtain ⟨f1, f2, f3⟩ := ins_frame (i := i) (encStr nm) HO.out hBl hgrow hg hBg hch2
           have m2 := f1 _ _ m1 rfl
           have k1 : ∀ w', (Instr.sliceAt 57 (.slice (some ⟨g, 0, none⟩) (n + 1) cap1) (some (.int .i64 ((i : Int) + 1))) none none).run Tryz.prog w' = _ := fun w' => cut_fromN g (n + 1) cap1 (i + 1) (by omega) w'
           have k2 := fun w' => cut_fromN g (n + 1) cap1 i (by omega) w'
           obtain ⟨P1, hP1⟩ : ∃ P1, cutP g cap1 (i + 1) = P1 := ⟨_, rfl⟩
           obtain ⟨P2, hP2⟩ : ∃ P2, cutP g cap1 i = P2 := ⟨_, rfl⟩
           obtain ⟨l1, hl1⟩ : ∃ l1, n + 1 - (i + 1) = l1 := ⟨_, rfl⟩
           obtain ⟨l2, hl2⟩ : ∃ l2, cap1 - (i + 1) = l2 := ⟨_, rfl⟩
           obtain ⟨l3, hl3⟩ : ∃ l3, n + 1 - i = l3 := ⟨_, rfl⟩
           obtain ⟨l4, hl4⟩ : ∃ l4, cap1 - i = l4 := ⟨_, rfl⟩
           rw [hP1, hP2, hl1, hl2, hl3, hl4] at hcp
           rw [hP1, hl1, hl2] at k1
           rw [hP2, hl3, hl4] at k2
           clear hP1 hP2 hl1 hl2 hl3 hl4
           refine Reg.start (B := B) (by kernel_rfl) ?_
           refine Reg.take (fun _ _ _ _ _ h => h) 0 _ 41 (.slice (some ⟨g, 0, none⟩) (n + 1) cap1) rfl (by kernel_rfl) (by kernel_rfl) (by kernel_rfl) rfl (by kernel_rfl) (by kernel_rfl) (fun _ _ => Reg.mv7 rfl rfl) ?_
           refine Reg.take (fun _ _ _ _ _ h => h) 1 _ 42 (.int .i64 (i : Int)) rfl (by kernel_rfl) (by kernel_rfl) (by kernel_rfl) rfl (by kernel_rfl) (by kernel_rfl) (fun _ _ => Reg.mv7 rfl rfl) ?_
           refine Reg.take (fun _ _ _ _ _ h => h) 2 _ 43 (.int .i64 ((i : Int) + 1)) rfl (by kernel_rfl) (by kernel_rfl) (by kernel_rfl) rfl (by kernel_rfl) (by kernel_rfl) (fun _ _ => Reg.adI rfl rfl rfl hii) ?_
           refine Reg.take (fun _ _ _ _ _ h => h) 3 _ 44 (.slice P1 l1 l2) rfl (by kernel_rfl) (by kernel_rfl) (by kernel_rfl) rfl (by kernel_rfl) (by kernel_rfl) (fun w' _ => Reg.sl rfl rfl rfl (k1 w')) ?_
           refine Reg.take (fun _ _ _ _ _ h => h) 4 _ 45 (.slice (some ⟨g, 0, none⟩) (n + 1) cap1) rfl (by kernel_rfl) (by kernel_rfl) (by kernel_rfl) rfl (by kernel_rfl) (by kernel_rfl) (fun _ _ => Reg.mv7 rfl rfl) ?_
           refine Reg.take (fun _ _ _ _ _ h => h) 5 _ 46 (.int .i64 (i : Int)) rfl (by kernel_rfl) (by kernel_rfl) (by kernel_rfl) rfl (by kernel_rfl) (by kernel_rfl) (fun _ _ => Reg.mv7 rfl rfl) ?_
           refine Reg.take (fun _ _ _ _ _ h => h) 6 _ 47 (.slice P2 l3 l4) rfl (by kernel_rfl) (by kernel_rfl) (by kernel_rfl) rfl (by kernel_rfl) (by kernel_rfl) (fun w' _ => Reg.sl rfl rfl rfl (k2 w')) ?_
           refine Reg.only 7 _ 48 rfl (by kernel_rfl) rfl (by kernel_rfl) rfl ⟨vc, w2, B, Reg.cpy rfl rfl rfl hcp, Nat.le_refl _, ⟨hch2.os, hch2.tape, hch2.output, hch2.size, fun k hk => hch2.block k (by have := (Array.getElem?_eq_some_iff.1 hg).1; show k < w1.heap.size; omega) (by omega)⟩, ?_⟩
           refine Reg.done (by kernel_rfl) ?_
           simp only [Reg.ov, Act.put, List.setIfInBounds_toArray, List.set_cons_succ, List.set_cons_zero]
           have hc2 : w2.cell? ⟨g, i, none⟩ = some z2 := U.cell_at hg2 (by have h1 : (cur2.toList.take (n + 1))[i]? = ((ss.take i).map encStr ++ z2 :: (ss.drop i).map encStr)[i]? := (by rw [htk2]); rw [List.getElem?_take, if_pos (by omega), List.getElem?_append_right (by simp; omega)] at h1; simpa [Nat.min_eq_left (show i ≤ ss.length by have := HN.out; omega)] using h1)
           have hf2 : w2.frozen? ⟨g, i, none⟩ = false := U.frozen_at hg2
           have HO4 := hide (ins_store nm HN.out hin hBg hg2 hsz2 hle hmx htk2)
           have m4 := f2 _ _ m1 rfl
           have HB4 := hide (HB.out.trans f3)
           have HK4 := hide (HK.out.trans f2)
           have en := elemSize57
           clear hcp k1 k2 hg2 htk2 hsz2 hg htk hsz hxl c0 c1 c2 c3 c4 f1 f2 f3 hgrow hch2 hOa HO m1 HB HK
           obtain ⟨c0, c1, c2, c3, c4⟩ := cells_five m2
           go_wp2
           clear c0 c1 c2 c3 c4 m2 hc2 hf2
           obtain ⟨c0, c1, c2, c3, c4⟩ := cells_five m4
           go_loopw [1, 6] (fun p u wr => ∃ (sr : List (List UInt8)) (i : Nat), u = .int .i64 (i : Int) ∧ i ≤ ks.length ∧ Hid (E.NmR ss (NS ++ E.vnK (ks.take i)) sr) ∧ Hid (OwnN wr B p sr) ∧ wr.heap[w.heap.size]? = some (.cells #[.int .i64 2, .int .i64 a, .slice sp s.length sc, .string ⟨nm.toArray⟩, .slice kp ks.length kc] 26) ∧ Hid (Below B w0 wr) ∧ w.heap.size < wr.heap.size ∧ Hid (KN w wr)) (fun _ u _ => ks.length - (intOf u).toNat)
           case atStart => exact ⟨_, 0, rfl, Nat.zero_le _, hide (by rw [List.take_zero, show E.vnK [] = [] from rfl, List.append_nil]; exact HR0.out), hide HO4.out, m4, hide HB4.out, (Array.getElem?_eq_some_iff.1 m4).1, hide HK4.out⟩
           case round =>
             obtain ⟨sr, i, rfl, hi, HR, HO, m1, HB, hwl, HK⟩ := hrel
             clear c0 c1 c2 c3 c4 m4 HO4 HB4 HK4
             obtain ⟨c0, c1, c2, c3, c4⟩ := cells_five m1
             by_cases hlt : i < ks.length
             · obtain ⟨b, off, v, hkp, ht1, hc1⟩ := KR.get _ 0 hkr1 i hlt
               obtain ⟨d1, rfl⟩ := ht1.ndD
               subst hkp
               rw [Nat.zero_add] at hc1
               have hl1 := cells5_lt hc1
               have HX : Hid (E.vnK (ks.take (i + 1)) = E.vnK (ks.take i) ++ E.vnk (E.pre ks[i] ks[i])) := hide (by rw [List.take_succ_eq_append_getElem hlt, E.vnK_snoc])
               have hbd : sr.length + sz ks[i] ≤ 1000000 := by
                 have h1 := HR.out.2.2
                 rw [List.length_append] at h1
                 have h2 := E.vnK_le (ks.take i)
                 have h3 : sK (ks.take (i + 1)) = sK (ks.take i) + sz ks[i] := by rw [List.take_succ_eq_append_getElem hlt, sK_snoc]
                 have h4 := sK_le (ks.take (i + 1)) (ks.drop (i + 1))
                 rw [List.take_append_drop] at h4
                 have := HNS.out
                 have := HSZ.out
                 omega
               have hcl := ih ks[i] (List.getElem_mem hlt) B w0 d1 wr _ sr HW.out HB.out ht1 HO.out HR.out.1 hbd
               obtain ⟨y0, y1, y2, y3, y4, ev, g0, g1, g2, g3, g4⟩ := hc1
               unfold ND.v at hcl ev
               simp only [Value.agg.injEq, Array.mk.injEq, List.cons.injEq, and_true] at ev
               obtain ⟨rfl, rfl, rfl, rfl, rfl⟩ := ev
               have hcb : ∀ j, wr.cell? ⟨b, j, none⟩ = w0.cell? ⟨b, j, none⟩ := fun j => World.cell?_of_block (w := w0) (a := ⟨b, j, none⟩) (HB.out.block b (by have := HW.out; omega))
               rw [← hcb] at g0 g1 g2 g3 g4
               clear ht1 hcb hbd
               go_wp2_with fail
               with_reducible refine hcl.mono ?_
               rintro e W4 ⟨u4, s4, rfl, ho4, hr4, hb4, hk4⟩
               have M1 := hide (hk4 _ _ m1 rfl)
               have HR2 : Hid (E.NmR ss (NS ++ E.vnK (ks.take (i + 1))) s4) := hide (by rw [HX.out, ← List.append_assoc]; exact E.nmR_trans HR.out hr4)
               have HO2 := hide ho4
               have HB2 := hide hb4
               have HK2 := hide (HK.out.trans hk4)
               have hwl4 : w.heap.size < W4.heap.size := (Array.getElem?_eq_some_iff.1 M1.out).1
               clear m1 hcl ho4 hr4 hb4 hk4 c0 c1 c2 c3 c4 g0 g1 g2 g3 g4
               go_wp2
               go_roundw
               case rel => exact ⟨_, i + 1, by go_num, by omega, HR2, HO2, M1.out, HB2, hwl4, HK2⟩
               case measure => simp [intOf]; omega
             · obtain rfl : i = ks.length := by omega
               have HF : Hid (E.NmR ss (E.vnk (E.pre (.mk 2 a s nm ks) (.mk 2 a s nm ks))) sr) := hide (by have h := HR.out; rw [List.take_length] at h; rw [HV.out]; exact h)
               go_wp2
               go_ret
               exact ⟨_, _, rfl, HO.out, HF.out, HB.out, HK.out⟩
     · obtain rfl : i = n := by omega
       have HINS := hide (E.nmR_ins HP.out i HL.out (fun y hy => by rw [HN.out, List.drop_length] at hy; cases hy))
       clear HL
       go_wp2_with fail
       go_quiet (fail)
       have hO_ : Hid (OwnN (wr.drewN nq) B (.slice ao i cap) ss) := HO
       have m_ : (wr.drewN nq).heap[w.heap.size]? = _ := m1
       have HB_ : Hid (Below B w0 (wr.drewN nq)) := hide (_root_.Go.below_drewN HB.out nq)
       have HK_ : Hid (KN w (wr.drewN nq)) := HK
       have hw_ : w.heap.size < (wr.drewN nq).heap.size := hwl
       clear HO m1 HB HK hwl c0 c1 c2 c3 c4
       have HO := hO_
       have m1 := m_
       have HB := HB_
       have HK := HK_
       have hwl := hw_
       clear hO_ m_ HB_ HK_ hw_
       generalize wr.drewN nq = W2 at *
       obtain ⟨c0, c1, c2, c3, c4⟩ := cells_five m1
       go_wp2_with fail
       go_quiet (fail)
       have hO_ : Hid (OwnN (W2.drewN nq) B (.slice ao i cap) ss) := HO
       have m_ : (W2.drewN nq).heap[w.heap.size]? = _ := m1
       have HB_ : Hid (Below B w0 (W2.drewN nq)) := hide (_root_.Go.below_drewN HB.out nq)
       have HK_ : Hid (KN w (W2.drewN nq)) := HK
       have hw_ : w.heap.size < (W2.drewN nq).heap.size := hwl
       clear HO m1 HB HK hwl c0 c1 c2 c3 c4
       have HO := hO_
       have m1 := m_
       have HB := HB_
       have HK := HK_
       have hwl := hw_
       clear hO_ m_ HB_ HK_ hw_
       generalize W2.drewN nq = W3 at *
       obtain ⟨c0, c1, c2, c3, c4⟩ := cells_five m1
       obtain ⟨NS, hNS⟩ : ∃ NS : List (List UInt8), NS = [nm] := ⟨_, rfl⟩
       have HV : Hid (E.vnk (E.pre (.mk 2 a s nm ks) (.mk 2 a s nm ks)) = NS ++ E.vnK ks) := hide (by rw [HV.out, hNS])
       have HNS : Hid (NS.length ≤ 1) := hide (by rw [hNS]; simp)
       have HR0 : Hid (E.NmR ss NS (ss.take i ++ nm :: ss.drop i)) := hide (by rw [hNS]; exact HINS.out)
       have hBl : B ≤ W3.heap.size := by have := HBS.out; omega
       have hOa : (W3.alloc (.cells #[.string ByteArray.empty] 9)).ownsRow B 9 1 (.slice ao i cap) i (ss.map encStr) := by
         have h := OwnN.alloc HO.out (.cells #[.string ByteArray.empty] 9)
         unfold OwnN at h
         rw [← HN.out] at h
         exact h
       clear hNS HINS
       go_wp2_with (at_builtin; (refine wpList_append_own_at _ rfl _ _ 57 rfl B 9 i0 (.string ByteArray.empty) 1 16 Tryz.underlying57 hi0 hz0 hz1 hz2 rfl (by decide) _ _ _ rfl hOa ⟨W3.heap.size, 0, none⟩ 1 1 [.string ByteArray.empty] rfl rfl (one_newS _ _ _) (by simp [Value.oneCell']) (by unfold maxLen; omega) (by omega) (by simp; omega) ?_; intro v1 w1 hown' hgrow _ hat; obtain ⟨hxl, ⟨hv, hn0⟩ | ⟨g, cap1, cur, rfl, hBg, hg, hle, hmx, hsz, htk⟩⟩ := hown'; (exact absurd hn0 (by omega))))
       rw [Nat.mul_one] at hsz htk
       obtain ⟨vc, w2, cur2, z2, hcp, hg2, hsz2, htk2, hch2⟩ := ins_mem 3 (w := w1.drew) HN.out hg htk hsz hle hin
       have hii : IntKind.i64.wrap ((i : Int) + 1) = (i : Int) + 1 := by simp [IntKind.wrap, IntKind.bits, IntKind.signed]; omega
       obtain ⟨f1, f2, f3⟩ := ins_frame (i := i) (encStr nm) HO.out hBl hgrow hg hBg hch2
       have m2 := f1 _ _ m1 rfl
       have k1 : ∀ w', (Instr.sliceAt 57 (.slice (some ⟨g, 0, none⟩) (i + 1) cap1) (some (.int .i64 ((i : Int) + 1))) none none).run Tryz.prog w' = _ := fun w' => cut_fromN g (i + 1) cap1 (i + 1) (by omega) w'
       have k2 := fun w' => cut_fromN g (i + 1) cap1 i (by omega) w'
       obtain ⟨P1, hP1⟩ : ∃ P1, cutP g cap1 (i + 1) = P1 := ⟨_, rfl⟩
       obtain ⟨P2, hP2⟩ : ∃ P2, cutP g cap1 i = P2 := ⟨_, rfl⟩
       obtain ⟨l1, hl1⟩ : ∃ l1, i + 1 - (i + 1) = l1 := ⟨_, rfl⟩
       obtain ⟨l2, hl2⟩ : ∃ l2, cap1 - (i + 1) = l2 := ⟨_, rfl⟩
       obtain ⟨l3, hl3⟩ : ∃ l3, i + 1 - i = l3 := ⟨_, rfl⟩
       obtain ⟨l4, hl4⟩ : ∃ l4, cap1 - i = l4 := ⟨_, rfl⟩
       rw [hP1, hP2, hl1, hl2, hl3, hl4] at hcp
       rw [hP1, hl1, hl2] at k1
       rw [hP2, hl3, hl4] at k2
       clear hP1 hP2 hl1 hl2 hl3 hl4
       refine Reg.start (B := B) (by kernel_rfl) ?_
       refine Reg.take (fun _ _ _ _ _ h => h) 0 _ 41 (.slice (some ⟨g, 0, none⟩) (i + 1) cap1) rfl (by kernel_rfl) (by kernel_rfl) (by kernel_rfl) rfl (by kernel_rfl) (by kernel_rfl) (fun _ _ => Reg.mv7 rfl rfl) ?_
       refine Reg.take (fun _ _ _ _ _ h => h) 1 _ 42 (.int .i64 (i : Int)) rfl (by kernel_rfl) (by kernel_rfl) (by kernel_rfl) rfl (by kernel_rfl) (by kernel_rfl) (fun _ _ => Reg.mv7 rfl rfl) ?_
       refine Reg.take (fun _ _ _ _ _ h => h) 2 _ 43 (.int .i64 ((i : Int) + 1)) rfl (by kernel_rfl) (by kernel_rfl) (by kernel_rfl) rfl (by kernel_rfl) (by kernel_rfl) (fun _ _ => Reg.adI rfl rfl rfl hii) ?_
       refine Reg.take (fun _ _ _ _ _ h => h) 3 _ 44 (.slice P1 l1 l2) rfl (by kernel_rfl) (by kernel_rfl) (by kernel_rfl) rfl (by kernel_rfl) (by kernel_rfl) (fun w' _ => Reg.sl rfl rfl rfl (k1 w')) ?_
       refine Reg.take (fun _ _ _ _ _ h => h) 4 _ 45 (.slice (some ⟨g, 0, none⟩) (i + 1) cap1) rfl (by kernel_rfl) (by kernel_rfl) (by kernel_rfl) rfl (by kernel_rfl) (by kernel_rfl) (fun _ _ => Reg.mv7 rfl rfl) ?_
       refine Reg.take (fun _ _ _ _ _ h => h) 5 _ 46 (.int .i64 (i : Int)) rfl (by kernel_rfl) (by kernel_rfl) (by kernel_rfl) rfl (by kernel_rfl) (by kernel_rfl) (fun _ _ => Reg.mv7 rfl rfl) ?_
       refine Reg.take (fun _ _ _ _ _ h => h) 6 _ 47 (.slice P2 l3 l4) rfl (by kernel_rfl) (by kernel_rfl) (by kernel_rfl) rfl (by kernel_rfl) (by kernel_rfl) (fun w' _ => Reg.sl rfl rfl rfl (k2 w')) ?_
       refine Reg.only 7 _ 48 rfl (by kernel_rfl) rfl (by kernel_rfl) rfl ⟨vc, w2, B, Reg.cpy rfl rfl rfl hcp, Nat.le_refl _, ⟨hch2.os, hch2.tape, hch2.output, hch2.size, fun k hk => hch2.block k (by have := (Array.getElem?_eq_some_iff.1 hg).1; show k < w1.heap.size; omega) (by omega)⟩, ?_⟩
       refine Reg.done (by kernel_rfl) ?_
       simp only [Reg.ov, Act.put, List.setIfInBounds_toArray, List.set_cons_succ, List.set_cons_zero]
       have hc2 : w2.cell? ⟨g, i, none⟩ = some z2 := U.cell_at hg2 (by have h1 : (cur2.toList.take (i + 1))[i]? = ((ss.take i).map encStr ++ z2 :: (ss.drop i).map encStr)[i]? := (by rw [htk2]); rw [List.getElem?_take, if_pos (by omega), List.getElem?_append_right (by simp; omega)] at h1; simpa [Nat.min_eq_left (show i ≤ ss.length by have := HN.out; omega)] using h1)
       have hf2 : w2.frozen? ⟨g, i, none⟩ = false := U.frozen_at hg2
       have HO4 := hide (ins_store nm HN.out hin hBg hg2 hsz2 hle hmx htk2)
       have m4 := f2 _ _ m1 rfl
       have HB4 := hide (HB.out.trans f3)
       have HK4 := hide (HK.out.trans f2)
       have en := elemSize57
       clear hcp k1 k2 hg2 htk2 hsz2 hg htk hsz hxl c0 c1 c2 c3 c4 f1 f2 f3 hgrow hch2 hOa HO m1 HB HK
       obtain ⟨c0, c1, c2, c3, c4⟩ := cells_five m2
       go_wp2
       clear c0 c1 c2 c3 c4 m2 hc2 hf2
       obtain ⟨c0, c1, c2, c3, c4⟩ := cells_five m4
       go_loopw [1, 6] (fun p u wr => ∃ (sr : List (List UInt8)) (i : Nat), u = .int .i64 (i : Int) ∧ i ≤ ks.length ∧ Hid (E.NmR ss (NS ++ E.vnK (ks.take i)) sr) ∧ Hid (OwnN wr B p sr) ∧ wr.heap[w.heap.size]? = some (.cells #[.int .i64 2, .int .i64 a, .slice sp s.length sc, .string ⟨nm.toArray⟩, .slice kp ks.length kc] 26) ∧ Hid (Below B w0 wr) ∧ w.heap.size < wr.heap.size ∧ Hid (KN w wr)) (fun _ u _ => ks.length - (intOf u).toNat)
       case atStart => exact ⟨_, 0, rfl, Nat.zero_le _, hide (by rw [List.take_zero, show E.vnK [] = [] from rfl, List.append_nil]; exact HR0.out), hide HO4.out, m4, hide HB4.out, (Array.getElem?_eq_some_iff.1 m4).1, hide HK4.out⟩
       case round =>
         obtain ⟨sr, i, rfl, hi, HR, HO, m1, HB, hwl, HK⟩ := hrel
         clear c0 c1 c2 c3 c4 m4 HO4 HB4 HK4
         obtain ⟨c0, c1, c2, c3, c4⟩ := cells_five m1
         by_cases hlt : i < ks.length
         · obtain ⟨b, off, v, hkp, ht1, hc1⟩ := KR.get _ 0 hkr1 i hlt
           obtain ⟨d1, rfl⟩ := ht1.ndD
           subst hkp
           rw [Nat.zero_add] at hc1
           have hl1 := cells5_lt hc1
           have HX : Hid (E.vnK (ks.take (i + 1)) = E.vnK (ks.take i) ++ E.vnk (E.pre ks[i] ks[i])) := hide (by rw [List.take_succ_eq_append_getElem hlt, E.vnK_snoc])
           have hbd : sr.length + sz ks[i] ≤ 1000000 := by
             have h1 := HR.out.2.2
             rw [List.length_append] at h1
             have h2 := E.vnK_le (ks.take i)
             have h3 : sK (ks.take (i + 1)) = sK (ks.take i) + sz ks[i] := by rw [List.take_succ_eq_append_getElem hlt, sK_snoc]
             have h4 := sK_le (ks.take (i + 1)) (ks.drop (i + 1))
             rw [List.take_append_drop] at h4
             have := HNS.out
             have := HSZ.out
             omega
           have hcl := ih ks[i] (List.getElem_mem hlt) B w0 d1 wr _ sr HW.out HB.out ht1 HO.out HR.out.1 hbd
           obtain ⟨y0, y1, y2, y3, y4, ev, g0, g1, g2, g3, g4⟩ := hc1
           unfold ND.v at hcl ev
           simp only [Value.agg.injEq, Array.mk.injEq, List.cons.injEq, and_true] at ev
           obtain ⟨rfl, rfl, rfl, rfl, rfl⟩ := ev
           have hcb : ∀ j, wr.cell? ⟨b, j, none⟩ = w0.cell? ⟨b, j, none⟩ := fun j => World.cell?_of_block (w := w0) (a := ⟨b, j, none⟩) (HB.out.block b (by have := HW.out; omega))
           rw [← hcb] at g0 g1 g2 g3 g4
           clear ht1 hcb hbd
           go_wp2_with fail
           with_reducible refine hcl.mono ?_
           rintro e W4 ⟨u4, s4, rfl, ho4, hr4, hb4, hk4⟩
           have M1 := hide (hk4 _ _ m1 rfl)
           have HR2 : Hid (E.NmR ss (NS ++ E.vnK (ks.take (i + 1))) s4) := hide (by rw [HX.out, ← List.append_assoc]; exact E.nmR_trans HR.out hr4)
           have HO2 := hide ho4
           have HB2 := hide hb4
           have HK2 := hide (HK.out.trans hk4)
           have hwl4 : w.heap.size < W4.heap.size := (Array.getElem?_eq_some_iff.1 M1.out).1
           clear m1 hcl ho4 hr4 hb4 hk4 c0 c1 c2 c3 c4 g0 g1 g2 g3 g4
           go_wp2
           go_roundw
           case rel => exact ⟨_, i + 1, by go_num, by omega, HR2, HO2, M1.out, HB2, hwl4, HK2⟩
           case measure => simp [intOf]; omega
         · obtain rfl : i = ks.length := by omega
           have HF : Hid (E.NmR ss (E.vnk (E.pre (.mk 2 a s nm ks) (.mk 2 a s nm ks))) sr) := hide (by have h := HR.out; rw [List.take_length] at h; rw [HV.out]; exact h)
           go_wp2
           go_ret
           exact ⟨_, _, rfl, HO.out, HF.out, HB.out, HK.out⟩
 · have hkb : (k == 2) = false := by simpa using hk
   obtain ⟨NS, hNS⟩ : ∃ NS : List (List UInt8), NS = [] := ⟨_, rfl⟩
   have HV : Hid (E.vnk (E.pre (.mk k a s nm ks) (.mk k a s nm ks)) = NS ++ E.vnK ks) := hide (by rw [HV0.out]; simp [hk, hNS])
   have HNS : Hid (NS.length ≤ 1) := hide (by rw [hNS]; simp)
   have HR0 : Hid (E.NmR ss (NS) ss) := hide (by rw [hNS]; exact E.nmR_refl _ HP.out)
   clear hNS hk
   go_enter Tryz.func64, Tryz.ntmps64
   go_wp2
   go_loopw [1, 6] (fun p u wr => ∃ (sr : List (List UInt8)) (i : Nat), u = .int .i64 (i : Int) ∧ i ≤ ks.length ∧ Hid (E.NmR ss (NS ++ E.vnK (ks.take i)) sr) ∧ Hid (OwnN wr B p sr) ∧ wr.heap[w.heap.size]? = some (.cells #[.int .i64 k, .int .i64 a, .slice sp s.length sc, .string ⟨nm.toArray⟩, .slice kp ks.length kc] 26) ∧ Hid (Below B w0 wr) ∧ w.heap.size < wr.heap.size ∧ Hid (KN w wr)) (fun _ u _ => ks.length - (intOf u).toNat)
   case atStart => exact ⟨_, 0, rfl, Nat.zero_le _, hide (by rw [List.take_zero, show E.vnK [] = [] from rfl, List.append_nil]; exact HR0.out), hide ho1, n1, hide hb1, (Array.getElem?_eq_some_iff.1 n1).1, hide hkn1⟩
   case round =>
     obtain ⟨sr, i, rfl, hi, HR, HO, m1, HB, hwl, HK⟩ := hrel
     clear c0 c1 c2 c3 c4
     obtain ⟨c0, c1, c2, c3, c4⟩ := cells_five m1
     by_cases hlt : i < ks.length
     · obtain ⟨b, off, v, hkp, ht1, hc1⟩ := KR.get _ 0 hkr1 i hlt
       obtain ⟨d1, rfl⟩ := ht1.ndD
       subst hkp
       rw [Nat.zero_add] at hc1
       have hl1 := cells5_lt hc1
       have HX : Hid (E.vnK (ks.take (i + 1)) = E.vnK (ks.take i) ++ E.vnk (E.pre ks[i] ks[i])) := hide (by rw [List.take_succ_eq_append_getElem hlt, E.vnK_snoc])
       have hbd : sr.length + sz ks[i] ≤ 1000000 := by
         have h1 := HR.out.2.2
         rw [List.length_append] at h1
         have h2 := E.vnK_le (ks.take i)
         have h3 : sK (ks.take (i + 1)) = sK (ks.take i) + sz ks[i] := by rw [List.take_succ_eq_append_getElem hlt, sK_snoc]
         have h4 := sK_le (ks.take (i + 1)) (ks.drop (i + 1))
         rw [List.take_append_drop] at h4
         have := HNS.out
         have := HSZ.out
         omega
       have hcl := ih ks[i] (List.getElem_mem hlt) B w0 d1 wr _ sr HW.out HB.out ht1 HO.out HR.out.1 hbd
       obtain ⟨y0, y1, y2, y3, y4, ev, g0, g1, g2, g3, g4⟩ := hc1
       unfold ND.v at hcl ev
       simp only [Value.agg.injEq, Array.mk.injEq, List.cons.injEq, and_true] at ev
       obtain ⟨rfl, rfl, rfl, rfl, rfl⟩ := ev
       have hcb : ∀ j, wr.cell? ⟨b, j, none⟩ = w0.cell? ⟨b, j, none⟩ := fun j => World.cell?_of_block (w := w0) (a := ⟨b, j, none⟩) (HB.out.block b (by have := HW.out; omega))
       rw [← hcb] at g0 g1 g2 g3 g4
       clear ht1 hcb hbd
       go_wp2_with fail
       with_reducible refine hcl.mono ?_
       rintro e W4 ⟨u4, s4, rfl, ho4, hr4, hb4, hk4⟩
       have M1 := hide (hk4 _ _ m1 rfl)
       have HR2 : Hid (E.NmR ss (NS ++ E.vnK (ks.take (i + 1))) s4) := hide (by rw [HX.out, ← List.append_assoc]; exact E.nmR_trans HR.out hr4)
       have HO2 := hide ho4
       have HB2 := hide hb4
       have HK2 := hide (HK.out.trans hk4)
       have hwl4 : w.heap.size < W4.heap.size := (Array.getElem?_eq_some_iff.1 M1.out).1
       clear m1 hcl ho4 hr4 hb4 hk4 c0 c1 c2 c3 c4 g0 g1 g2 g3 g4
       go_wp2
       go_roundw
       case rel => exact ⟨_, i + 1, by go_num, by omega, HR2, HO2, M1.out, HB2, hwl4, HK2⟩
       case measure => simp [intOf]; omega
     · obtain rfl : i = ks.length := by omega
       have HF : Hid (E.NmR ss (E.vnk (E.pre (.mk k a s nm ks) (.mk k a s nm ks))) sr) := hide (by have h := HR.out; rw [List.take_length] at h; rw [HV.out]; exact h)
       go_wp2
       go_ret
       exact ⟨_, _, rfl, HO.out, HF.out, HB.out, HK.out⟩
theorem names_n : ∀ (n : Nat) (t : T), SizeOf.sizeOf t < n → (∀ p ∈ E.pre t t, p.1.name.length ≤ 100000) → NmP t
 | 0, _, h, _ => absurd h (Nat.not_lt_zero _)
 | n + 1, .mk k a s nm ks, h, hF => names_step k a s nm ks (hF (.mk k a s nm ks, .mk k a s nm ks) (by rw [pre_self]; exact List.mem_cons_self)) (fun t ht => names_n n t (by
     have := List.sizeOf_lt_of_mem ht
     simp at h
     omega) (fun p hp => hF p (by rw [pre_self]; exact List.mem_cons_of_mem _ (List.mem_flatMap.2 ⟨t, ht, hp⟩))))
set_option maxRecDepth 100000 in
set_option maxHeartbeats 1000000 in
theorem namesR_any (t : T) (hz : sz t ≤ 1000000) (hn : ∀ p ∈ E.pre t t, p.1.name.length ≤ 100000) (d : ND) (w : World) (hd : TR w (fun _ => True) t d.v) : Calls Tryz.prog 31 #[d.v] w fun e w' => ∃ u, e = .returned u ∧ OwnN w' w.heap.size u (E.nmL t) ∧ Below w.heap.size w w' := by
 have a1 := al1 w (.cells #[.int .i64 d.k, .int .i64 d.a, .slice d.sp d.sl d.sc, .string d.n, .slice d.kp d.kl d.kc] 26)
 have n1 := heap_alloc_new w (.cells #[.int .i64 d.k, .int .i64 d.a, .slice d.sp d.sl d.sc, .string d.n, .slice d.kp d.kl d.kc] 26)
 obtain ⟨X1, hX1⟩ : ∃ X1, w.alloc (.cells #[.int .i64 d.k, .int .i64 d.a, .slice d.sp d.sl d.sc, .string d.n, .slice d.kp d.kl d.kc] 26) = X1 := ⟨_, rfl⟩
 rw [hX1] at a1 n1
 have h1 := names_n (SizeOf.sizeOf t + 1) t (Nat.lt_succ_self _) hn w.heap.size w d X1 (.slice none 0 0) [] rfl a1 hd (ownN_nil _ _) List.Pairwise.nil (by simpa using hz)
 obtain ⟨c0, c1, c2, c3, c4⟩ := cells_five n1
 have HT := hide (fun ss' h => E.nmR_top t ss' h)
 unfold ND.v at h1 ⊢
 clear hd
 go_enter Tryz.func31, Tryz.ntmps31
 go_wp2_with fail
 with_reducible refine h1.mono ?_
 rintro e W2 ⟨u, ss', rfl, ho, hr, hb, _⟩
 have HE := hide (HT.out ss' hr)
 have HO := hide ho
 clear h1 ho hr HT
 go_wp2
 go_ret
 exact ⟨_, rfl, by rw [← HE.out]; exact HO.out, hb⟩
end Go.Proofs.YtemanednddhfaaaGreatDoor
