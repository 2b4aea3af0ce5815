/- What the reference's Is answers. -/
import Derived.Test.YteaaijhppmkfeaaGreatDoorRUIs
import Derived.Test.YteaaijhppmkfeaaGreatDoorRURegb
namespace Go.Proofs.YteaaijhppmkfeaaGreatDoor.U
open Go.RowKit Go.Shelf
theorem Reg.subI {P : Program} {w : World} {ρ : Operand → Value} {o : Oper} {t t' : TypeId} {x y : Operand} {k : IntKind} {m n r : Int} (hop : o.op = .binOp .sub t x y t') (hx : ρ x = .int k m) (hy : ρ y = .int k n) (h : k.wrap (m - n) = r) :
   (execOp ρ o).run P w = .ok (.value (.int k r)) w := by
 obtain ⟨dst, op, type, pos, after, guard⟩ := o
 simp only at hop
 subst hop
 subst h
 simp [execOp, hx, hy, eqGuard, binOp, Op.intArith]
set_option maxRecDepth 100000 in
set_option maxHeartbeats 4000000 in
theorem refIs_any (ao : Option Addr) (ca : Nat) (xs : List S.R) (hl : xs.length ≤ 1000000) (w : World) (h : RdR w ao xs) :
   Calls Tryz.prog 84 #[.slice ao xs.length ca] w fun e W' => Told (S.Canon xs) e ∧ Below w.heap.size w W' := by
 go_enter Tryz.func84, Tryz.ntmps84
 go_wp2
 go_loopw [3] (fun p wr => ∃ k : Nat, p = .int .i64 (k : Int) ∧ k ≤ xs.length ∧ S.Canon (xs.take k) ∧ Below w.heap.size w wr) (fun p _ => xs.length - (intOf p).toNat)
 case atStart => exact ⟨0, rfl, Nat.zero_le _, S.canon_nil, Below.refl _ _⟩
 case round =>
   obtain ⟨k, rfl, hk, hC, hB⟩ := hrel
   by_cases hlt : k < xs.length
   · obtain ⟨b, off, rfl, hd1, hd2⟩ := (h.later hB) k hlt
     have hmem := List.getElem_mem hlt
     have HT : Hid (xs.take (k + 1) = xs.take k ++ [xs[k]]) := List.take_succ_eq_append_getElem hlt
     have hprev : ∀ m, k = m + 1 → ∃ p1 p2 : Int, S.good (p1, p2) = true ∧ (p1, p2) ∈ xs.take k ∧ (∀ x ∈ xs.take k, x.2 ≤ p2) ∧ wr.cell? ⟨b, off + m * 2 + 1, none⟩ = some (.int .i32 p2) := by
       rintro m rfl
       obtain ⟨b', off', e, c1, c2⟩ := (h.later hB) m (by omega)
       cases e
       have hin : xs[m] ∈ xs.take (m + 1) := by
         rw [List.take_succ_eq_append_getElem (by omega)]
         exact List.mem_append_right _ (List.mem_singleton.2 rfl)
       refine ⟨xs[m].1, xs[m].2, hC.good _ hin, hin, ?_, c2⟩
       · intro x hx
         rw [List.take_succ_eq_append_getElem (by omega)] at hx hC
         obtain ⟨_, h2, h3⟩ := S.canon_append.1 hC
         rcases List.mem_append.1 hx with hx | hx
         · have h4 := h3 x hx xs[m] (by simp)
           have h5 := (S.good_iff _).1 (h2.good xs[m] (by simp))
           omega
         · obtain rfl : x = xs[m] := by simpa using hx
           exact Int.le_refl _
     generalize hxk : xs[k] = s at *
     obtain ⟨s1, s2⟩ := s
     simp only at hd1 hd2
     have hgood := refGood_any s1 s2
     obtain ⟨gx, hgx⟩ : ∃ gx, S.good (s1, s2) = gx := ⟨_, rfl⟩
     rw [hgx] at hgood
     have HX := hide hgx
     clear hgx hxk
     cases gx with
     | false =>
       go_wp2_with fail
       obtain ⟨wa, hwa⟩ : ∃ wa, wa = wr.drew := ⟨_, rfl⟩
       have hBa : Below w.heap.size w wa := by rw [hwa]; exact hB.drew
       have cx1 : wa.cell? ⟨b, off + k * 2, none⟩ = some (.int .i32 s1) := by rw [hwa]; exact hd1
       have cx2 : wa.cell? ⟨b, off + k * 2 + 1, none⟩ = some (.int .i32 s2) := by rw [hwa]; exact hd2
       have hbl : b < wa.heap.size := cell_lt cx1
       refine Reg.start (B := wa.heap.size) (by kernel_rfl) ?_
       rw [← hwa]
       refine Reg.take (fun _ _ _ _ _ h => h) 0 _ 10 (.slice (some ⟨b, off, none⟩) xs.length ca) rfl (by kernel_rfl) (by kernel_rfl) (by kernel_rfl) rfl (by kernel_rfl) (by kernel_rfl) (fun _ _ => by kernel_rfl) ?_
       refine Reg.take (fun _ _ _ _ _ h => h) 1 _ 11 (.int .i64 (k : Int)) rfl (by kernel_rfl) (by kernel_rfl) (by kernel_rfl) rfl (by kernel_rfl) (by kernel_rfl) (fun _ _ => by kernel_rfl) ?_
       refine Reg.take (fun _ _ _ _ _ h => h) 2 _ 12 (.pointer (some ⟨b, off + k * 2, none⟩)) rfl (by kernel_rfl) (by kernel_rfl) (by kernel_rfl) rfl (by kernel_rfl) (by kernel_rfl) (fun wx _ => Reg.ix (len := xs.length) (cap := ca) (q := .i64) rfl (by kernel_rfl) (by kernel_rfl) hlt Tryz.underlying23 (elemSize23 wx)) ?_
       refine Reg.take (fun _ _ _ _ _ h => h) 3 _ 13 (.agg #[.int .i32 s1, .int .i32 s2]) rfl (by kernel_rfl) (by kernel_rfl) (by kernel_rfl) rfl (by kernel_rfl) (by kernel_rfl) (fun wx hx => Reg.ld (cs := [.int .i32 s1, .int .i32 s2]) rfl (by kernel_rfl) (range_two ((hx.cell hbl).trans cx1) ((hx.cell hbl).trans cx2)) Tryz.underlying69 rfl (by kernel_rfl)) ?_
       refine Reg.call 4 _ 14 122 _ _ #[.agg #[.int .i32 s1, .int .i32 s2]] rfl (by kernel_rfl) rfl (by kernel_rfl) (by kernel_rfl) rfl (by kernel_rfl) (by kernel_rfl) (hgood wa) ?_
       rintro e w14 ⟨rfl, hb14⟩
       refine ⟨_, w14.heap.size, rfl, hb14.size, hb14, ?_⟩
       refine Reg.take (fun _ _ _ _ _ h => h) 5 _ 15 (.bool true) rfl (by kernel_rfl) (by kernel_rfl) (by kernel_rfl) rfl (by kernel_rfl) (by kernel_rfl) (fun _ _ => by kernel_rfl) ?_
       refine Reg.take (fun _ _ _ _ _ h => h) 6 _ 16 (.bool true) rfl (by kernel_rfl) (by kernel_rfl) (by kernel_rfl) rfl (by kernel_rfl) (by kernel_rfl) (fun _ _ => by kernel_rfl) ?_
       refine Reg.skip (fun _ _ _ _ _ h => h) 7 _ 17 rfl (by kernel_rfl) (by kernel_rfl) (by kernel_rfl) rfl (by kernel_rfl) (by kernel_rfl) ?_
       refine Reg.skip (fun _ _ _ _ _ h => h) 8 _ 18 rfl (by kernel_rfl) (by kernel_rfl) (by kernel_rfl) rfl (by kernel_rfl) (by kernel_rfl) ?_
       refine Reg.skip (fun _ _ _ _ _ h => h) 9 _ 19 rfl (by kernel_rfl) (by kernel_rfl) (by kernel_rfl) rfl (by kernel_rfl) (by kernel_rfl) ?_
       refine Reg.skip (fun _ _ _ _ _ h => h) 10 _ 20 rfl (by kernel_rfl) (by kernel_rfl) (by kernel_rfl) rfl (by kernel_rfl) (by kernel_rfl) ?_
       refine Reg.skip (fun _ _ _ _ _ h => h) 11 _ 21 rfl (by kernel_rfl) (by kernel_rfl) (by kernel_rfl) rfl (by kernel_rfl) (by kernel_rfl) ?_
       refine Reg.skip (fun _ _ _ _ _ h => h) 12 _ 22 rfl (by kernel_rfl) (by kernel_rfl) (by kernel_rfl) rfl (by kernel_rfl) (by kernel_rfl) ?_
       refine Reg.skip (fun _ _ _ _ _ h => h) 13 _ 23 rfl (by kernel_rfl) (by kernel_rfl) (by kernel_rfl) rfl (by kernel_rfl) (by kernel_rfl) ?_
       refine Reg.skip (fun _ _ _ _ _ h => h) 14 _ 24 rfl (by kernel_rfl) (by kernel_rfl) (by kernel_rfl) rfl (by kernel_rfl) (by kernel_rfl) ?_
       refine Reg.skip (fun _ _ _ _ _ h => h) 15 _ 25 rfl (by kernel_rfl) (by kernel_rfl) (by kernel_rfl) rfl (by kernel_rfl) (by kernel_rfl) ?_
       refine Reg.skip (fun _ _ _ _ _ h => h) 16 _ 26 rfl (by kernel_rfl) (by kernel_rfl) (by kernel_rfl) rfl (by kernel_rfl) (by kernel_rfl) ?_
       refine Reg.skip (fun _ _ _ _ _ h => h) 17 _ 27 rfl (by kernel_rfl) (by kernel_rfl) (by kernel_rfl) rfl (by kernel_rfl) (by kernel_rfl) ?_
       refine Reg.skip (fun _ _ _ _ _ h => h) 18 _ 28 rfl (by kernel_rfl) (by kernel_rfl) (by kernel_rfl) rfl (by kernel_rfl) (by kernel_rfl) ?_
       refine Reg.skip (fun _ _ _ _ _ h => h) 19 _ 29 rfl (by kernel_rfl) (by kernel_rfl) (by kernel_rfl) rfl (by kernel_rfl) (by kernel_rfl) ?_
       refine Reg.skip (fun _ _ _ _ _ h => h) 20 _ 30 rfl (by kernel_rfl) (by kernel_rfl) (by kernel_rfl) rfl (by kernel_rfl) (by kernel_rfl) ?_
       refine Reg.skip (fun _ _ _ _ _ h => h) 21 _ 31 rfl (by kernel_rfl) (by kernel_rfl) (by kernel_rfl) rfl (by kernel_rfl) (by kernel_rfl) ?_
       refine Reg.skip (fun _ _ _ _ _ h => h) 22 _ 32 rfl (by kernel_rfl) (by kernel_rfl) (by kernel_rfl) rfl (by kernel_rfl) (by kernel_rfl) ?_
       refine Reg.skip (fun _ _ _ _ _ h => h) 23 _ 33 rfl (by kernel_rfl) (by kernel_rfl) (by kernel_rfl) rfl (by kernel_rfl) (by kernel_rfl) ?_
       refine Reg.take (fun _ _ _ _ _ h => h) 24 _ 34 (.bool true) rfl (by kernel_rfl) (by kernel_rfl) (by kernel_rfl) rfl (by kernel_rfl) (by kernel_rfl) (fun _ _ => by kernel_rfl) ?_
       refine Reg.done_at (by kernel_rfl) { tmps := #[.slice (some ⟨b, off, none⟩) xs.length ca, undef, u2, .int .i64 (k : Int), .int .i64 (k : Int), .slice (some ⟨b, off, none⟩) xs.length ca, .int .i64 (xs.length : Int), .bool true, u8, u9, .slice (some ⟨b, off, none⟩) xs.length ca, .int .i64 (k : Int), .pointer (some ⟨b, off + k * 2, none⟩), .agg #[.int .i32 s1, .int .i32 s2], .bool false, .bool true, .bool true, undef, undef, undef, undef, undef, undef, undef, undef, undef, undef, undef, undef, undef, undef, undef, undef, undef, .bool true], defers := [] } (by kernel_rfl) ?_
       have hB3 := nx hBa hb14
       have HN : Hid (¬ S.Canon xs) := fun hc => by
         have := hc.good _ hmem
         rw [HX.out] at this
         cases this
       clear hprev hC cx1 cx2 hd1 hd2 hgood hwa
       go_wp2
       go_ret
       exact ⟨told_no HN.out, hB3⟩
     | true =>
       have hgs := (S.good_iff _).1 HX.out
       simp only at hgs
       by_cases hz : k = 0
       · have HZ := hide hz
         have HKZ : Hid (decide ((k : Int) > 0) = false) := hide (by simp; omega)
         clear hz
         go_wp2_with fail
         obtain ⟨wa, hwa⟩ : ∃ wa, wa = wr.drew := ⟨_, rfl⟩
         have hBa : Below w.heap.size w wa := by rw [hwa]; exact hB.drew
         have cx1 : wa.cell? ⟨b, off + k * 2, none⟩ = some (.int .i32 s1) := by rw [hwa]; exact hd1
         have cx2 : wa.cell? ⟨b, off + k * 2 + 1, none⟩ = some (.int .i32 s2) := by rw [hwa]; exact hd2
         have hbl : b < wa.heap.size := cell_lt cx1
         refine Reg.start (B := wa.heap.size) (by kernel_rfl) ?_
         rw [← hwa]
         refine Reg.take (fun _ _ _ _ _ h => h) 0 _ 10 (.slice (some ⟨b, off, none⟩) xs.length ca) rfl (by kernel_rfl) (by kernel_rfl) (by kernel_rfl) rfl (by kernel_rfl) (by kernel_rfl) (fun _ _ => by kernel_rfl) ?_
         refine Reg.take (fun _ _ _ _ _ h => h) 1 _ 11 (.int .i64 (k : Int)) rfl (by kernel_rfl) (by kernel_rfl) (by kernel_rfl) rfl (by kernel_rfl) (by kernel_rfl) (fun _ _ => by kernel_rfl) ?_
         refine Reg.take (fun _ _ _ _ _ h => h) 2 _ 12 (.pointer (some ⟨b, off + k * 2, none⟩)) rfl (by kernel_rfl) (by kernel_rfl) (by kernel_rfl) rfl (by kernel_rfl) (by kernel_rfl) (fun wx _ => Reg.ix (len := xs.length) (cap := ca) (q := .i64) rfl (by kernel_rfl) (by kernel_rfl) hlt Tryz.underlying23 (elemSize23 wx)) ?_
         refine Reg.take (fun _ _ _ _ _ h => h) 3 _ 13 (.agg #[.int .i32 s1, .int .i32 s2]) rfl (by kernel_rfl) (by kernel_rfl) (by kernel_rfl) rfl (by kernel_rfl) (by kernel_rfl) (fun wx hx => Reg.ld (cs := [.int .i32 s1, .int .i32 s2]) rfl (by kernel_rfl) (range_two ((hx.cell hbl).trans cx1) ((hx.cell hbl).trans cx2)) Tryz.underlying69 rfl (by kernel_rfl)) ?_
         refine Reg.call 4 _ 14 122 _ _ #[.agg #[.int .i32 s1, .int .i32 s2]] rfl (by kernel_rfl) rfl (by kernel_rfl) (by kernel_rfl) rfl (by kernel_rfl) (by kernel_rfl) (hgood wa) ?_
         rintro e w14 ⟨rfl, hb14⟩
         refine ⟨_, w14.heap.size, rfl, hb14.size, hb14, ?_⟩
         refine Reg.take (fun _ _ _ _ _ h => h) 5 _ 15 (.bool false) rfl (by kernel_rfl) (by kernel_rfl) (by kernel_rfl) rfl (by kernel_rfl) (by kernel_rfl) (fun _ _ => by kernel_rfl) ?_
         refine Reg.take (fun _ _ _ _ _ h => h) 6 _ 16 (.bool false) rfl (by kernel_rfl) (by kernel_rfl) (by kernel_rfl) rfl (by kernel_rfl) (by kernel_rfl) (fun _ _ => by kernel_rfl) ?_
         refine Reg.take (fun _ _ _ _ _ h => h) 7 _ 17 (.int .i64 (k : Int)) rfl (by kernel_rfl) (by kernel_rfl) (by kernel_rfl) rfl (by kernel_rfl) (by kernel_rfl) (fun _ _ => by kernel_rfl) ?_
         refine Reg.take (fun _ _ _ _ _ h => h) 8 _ 18 (.bool false) rfl (by kernel_rfl) (by kernel_rfl) (by kernel_rfl) rfl (by kernel_rfl) (by kernel_rfl) (fun _ _ => Reg.gtr (k := .i64) (m := (k : Int)) (n := 0) rfl (by kernel_rfl) (by kernel_rfl) HKZ.out) ?_
         refine Reg.take (fun _ _ _ _ _ h => h) 9 _ 19 (.bool false) rfl (by kernel_rfl) (by kernel_rfl) (by kernel_rfl) rfl (by kernel_rfl) (by kernel_rfl) (fun _ _ => by kernel_rfl) ?_
         refine Reg.skip (fun _ _ _ _ _ h => h) 10 _ 20 rfl (by kernel_rfl) (by kernel_rfl) (by kernel_rfl) rfl (by kernel_rfl) (by kernel_rfl) ?_
         refine Reg.skip (fun _ _ _ _ _ h => h) 11 _ 21 rfl (by kernel_rfl) (by kernel_rfl) (by kernel_rfl) rfl (by kernel_rfl) (by kernel_rfl) ?_
         refine Reg.skip (fun _ _ _ _ _ h => h) 12 _ 22 rfl (by kernel_rfl) (by kernel_rfl) (by kernel_rfl) rfl (by kernel_rfl) (by kernel_rfl) ?_
         refine Reg.skip (fun _ _ _ _ _ h => h) 13 _ 23 rfl (by kernel_rfl) (by kernel_rfl) (by kernel_rfl) rfl (by kernel_rfl) (by kernel_rfl) ?_
         refine Reg.skip (fun _ _ _ _ _ h => h) 14 _ 24 rfl (by kernel_rfl) (by kernel_rfl) (by kernel_rfl) rfl (by kernel_rfl) (by kernel_rfl) ?_
         refine Reg.skip (fun _ _ _ _ _ h => h) 15 _ 25 rfl (by kernel_rfl) (by kernel_rfl) (by kernel_rfl) rfl (by kernel_rfl) (by kernel_rfl) ?_
         refine Reg.skip (fun _ _ _ _ _ h => h) 16 _ 26 rfl (by kernel_rfl) (by kernel_rfl) (by kernel_rfl) rfl (by kernel_rfl) (by kernel_rfl) ?_
         refine Reg.skip (fun _ _ _ _ _ h => h) 17 _ 27 rfl (by kernel_rfl) (by kernel_rfl) (by kernel_rfl) rfl (by kernel_rfl) (by kernel_rfl) ?_
         refine Reg.skip (fun _ _ _ _ _ h => h) 18 _ 28 rfl (by kernel_rfl) (by kernel_rfl) (by kernel_rfl) rfl (by kernel_rfl) (by kernel_rfl) ?_
         refine Reg.skip (fun _ _ _ _ _ h => h) 19 _ 29 rfl (by kernel_rfl) (by kernel_rfl) (by kernel_rfl) rfl (by kernel_rfl) (by kernel_rfl) ?_
         refine Reg.skip (fun _ _ _ _ _ h => h) 20 _ 30 rfl (by kernel_rfl) (by kernel_rfl) (by kernel_rfl) rfl (by kernel_rfl) (by kernel_rfl) ?_
         refine Reg.skip (fun _ _ _ _ _ h => h) 21 _ 31 rfl (by kernel_rfl) (by kernel_rfl) (by kernel_rfl) rfl (by kernel_rfl) (by kernel_rfl) ?_
         refine Reg.skip (fun _ _ _ _ _ h => h) 22 _ 32 rfl (by kernel_rfl) (by kernel_rfl) (by kernel_rfl) rfl (by kernel_rfl) (by kernel_rfl) ?_
         refine Reg.take (fun _ _ _ _ _ h => h) 23 _ 33 (.bool false) rfl (by kernel_rfl) (by kernel_rfl) (by kernel_rfl) rfl (by kernel_rfl) (by kernel_rfl) (fun _ _ => by kernel_rfl) ?_
         refine Reg.take (fun _ _ _ _ _ h => h) 24 _ 34 (.bool false) rfl (by kernel_rfl) (by kernel_rfl) (by kernel_rfl) rfl (by kernel_rfl) (by kernel_rfl) (fun _ _ => by kernel_rfl) ?_
         refine Reg.done_at (by kernel_rfl) { tmps := #[.slice (some ⟨b, off, none⟩) xs.length ca, undef, u2, .int .i64 (k : Int), .int .i64 (k : Int), .slice (some ⟨b, off, none⟩) xs.length ca, .int .i64 (xs.length : Int), .bool true, u8, u9, .slice (some ⟨b, off, none⟩) xs.length ca, .int .i64 (k : Int), .pointer (some ⟨b, off + k * 2, none⟩), .agg #[.int .i32 s1, .int .i32 s2], .bool true, .bool false, .bool false, .int .i64 (k : Int), .bool false, .bool false, undef, undef, undef, undef, undef, undef, undef, undef, undef, undef, undef, undef, undef, .bool false, .bool false], defers := [] } (by kernel_rfl) ?_
         have hB3 := nx hBa hb14
         have HC : Hid (S.Canon (xs.take (k + 1))) := by
           have := HT.out
           show S.Canon _
           rw [this, HZ.out, List.take_zero, List.nil_append]
           exact S.canon_one HX.out
         clear hprev hC cx1 cx2 hd1 hd2 hgood hwa
         go_wp2
         go_roundw
         case rel => exact ⟨k + 1, by go_num, by omega, HC.out, hB3⟩
         case measure => simp [intOf]; omega
       obtain ⟨m, hkm⟩ : ∃ m, k = m + 1 := ⟨k - 1, by omega⟩
       obtain ⟨p1, p2, hgp, hpm, hpl, cp2'⟩ := hprev m hkm
       have hgp2 := (S.good_iff _).1 hgp
       simp only at hgp2
       have hml : m < xs.length := by omega
       have hwm : IntKind.i64.wrap ((k : Int) - 1) = (m : Int) := by simp [IntKind.wrap, IntKind.bits, IntKind.signed]; omega
       have hws : IntKind.i32.wrap (s1 - p2) = s1 - p2 := by simp [IntKind.wrap, IntKind.bits, IntKind.signed]; omega
       have hk0 : 0 < k := by omega
       have hPM := hide hpm
       have hPL := hide hpl
       clear hprev hkm hpm hpl hz
       by_cases hlt2 : s1 - p2 < 2
       · go_wp2_with fail
         have cp2 : wr.drew.cell? ⟨b, off + m * 2 + 1, none⟩ = some (.int .i32 p2) := cp2'
         obtain ⟨wa, hwa⟩ : ∃ wa, wa = wr.drew := ⟨_, rfl⟩
         have hBa : Below w.heap.size w wa := by rw [hwa]; exact hB.drew
         have cx1 : wa.cell? ⟨b, off + k * 2, none⟩ = some (.int .i32 s1) := by rw [hwa]; exact hd1
         have cx2 : wa.cell? ⟨b, off + k * 2 + 1, none⟩ = some (.int .i32 s2) := by rw [hwa]; exact hd2
         have hbl : b < wa.heap.size := cell_lt cx1
         refine Reg.start (B := wa.heap.size) (by kernel_rfl) ?_
         rw [← hwa]
         rw [← hwa] at cp2
         refine Reg.take (fun _ _ _ _ _ h => h) 0 _ 10 (.slice (some ⟨b, off, none⟩) xs.length ca) rfl (by kernel_rfl) (by kernel_rfl) (by kernel_rfl) rfl (by kernel_rfl) (by kernel_rfl) (fun _ _ => by kernel_rfl) ?_
         refine Reg.take (fun _ _ _ _ _ h => h) 1 _ 11 (.int .i64 (k : Int)) rfl (by kernel_rfl) (by kernel_rfl) (by kernel_rfl) rfl (by kernel_rfl) (by kernel_rfl) (fun _ _ => by kernel_rfl) ?_
         refine Reg.take (fun _ _ _ _ _ h => h) 2 _ 12 (.pointer (some ⟨b, off + k * 2, none⟩)) rfl (by kernel_rfl) (by kernel_rfl) (by kernel_rfl) rfl (by kernel_rfl) (by kernel_rfl) (fun wx _ => Reg.ix (len := xs.length) (cap := ca) (q := .i64) rfl (by kernel_rfl) (by kernel_rfl) hlt Tryz.underlying23 (elemSize23 wx)) ?_
         refine Reg.take (fun _ _ _ _ _ h => h) 3 _ 13 (.agg #[.int .i32 s1, .int .i32 s2]) rfl (by kernel_rfl) (by kernel_rfl) (by kernel_rfl) rfl (by kernel_rfl) (by kernel_rfl) (fun wx hx => Reg.ld (cs := [.int .i32 s1, .int .i32 s2]) rfl (by kernel_rfl) (range_two ((hx.cell hbl).trans cx1) ((hx.cell hbl).trans cx2)) Tryz.underlying69 rfl (by kernel_rfl)) ?_
         refine Reg.call 4 _ 14 122 _ _ #[.agg #[.int .i32 s1, .int .i32 s2]] rfl (by kernel_rfl) rfl (by kernel_rfl) (by kernel_rfl) rfl (by kernel_rfl) (by kernel_rfl) (hgood wa) ?_
         rintro e w14 ⟨rfl, hb14⟩
         refine ⟨_, w14.heap.size, rfl, hb14.size, hb14, ?_⟩
         refine Reg.take (fun _ _ _ _ _ h => h) 5 _ 15 (.bool false) rfl (by kernel_rfl) (by kernel_rfl) (by kernel_rfl) rfl (by kernel_rfl) (by kernel_rfl) (fun _ _ => by kernel_rfl) ?_
         refine Reg.take (fun _ _ _ _ _ h => h) 6 _ 16 (.bool false) rfl (by kernel_rfl) (by kernel_rfl) (by kernel_rfl) rfl (by kernel_rfl) (by kernel_rfl) (fun _ _ => by kernel_rfl) ?_
         refine Reg.take (fun _ _ _ _ _ h => h) 7 _ 17 (.int .i64 (k : Int)) rfl (by kernel_rfl) (by kernel_rfl) (by kernel_rfl) rfl (by kernel_rfl) (by kernel_rfl) (fun _ _ => by kernel_rfl) ?_
         refine Reg.take (fun _ _ _ _ _ h => h) 8 _ 18 (.bool true) rfl (by kernel_rfl) (by kernel_rfl) (by kernel_rfl) rfl (by kernel_rfl) (by kernel_rfl) (fun _ _ => Reg.gtr (k := .i64) (m := (k : Int)) (n := 0) rfl (by kernel_rfl) (by kernel_rfl) (by simp; omega)) ?_
         refine Reg.take (fun _ _ _ _ _ h => h) 9 _ 19 (.bool true) rfl (by kernel_rfl) (by kernel_rfl) (by kernel_rfl) rfl (by kernel_rfl) (by kernel_rfl) (fun _ _ => by kernel_rfl) ?_
         refine Reg.take (fun _ _ _ _ _ h => h) 10 _ 20 (.slice (some ⟨b, off, none⟩) xs.length ca) rfl (by kernel_rfl) (by kernel_rfl) (by kernel_rfl) rfl (by kernel_rfl) (by kernel_rfl) (fun _ _ => by kernel_rfl) ?_
         refine Reg.take (fun _ _ _ _ _ h => h) 11 _ 21 (.int .i64 (k : Int)) rfl (by kernel_rfl) (by kernel_rfl) (by kernel_rfl) rfl (by kernel_rfl) (by kernel_rfl) (fun _ _ => by kernel_rfl) ?_
         refine Reg.take (fun _ _ _ _ _ h => h) 12 _ 22 (.pointer (some ⟨b, off + k * 2, none⟩)) rfl (by kernel_rfl) (by kernel_rfl) (by kernel_rfl) rfl (by kernel_rfl) (by kernel_rfl) (fun wx _ => Reg.ix (len := xs.length) (cap := ca) (q := .i64) rfl (by kernel_rfl) (by kernel_rfl) hlt Tryz.underlying23 (elemSize23 wx)) ?_
         refine Reg.take (fun _ _ _ _ _ h => h) 13 _ 23 (.pointer (some ⟨b, off + k * 2, none⟩)) rfl (by kernel_rfl) (by kernel_rfl) (by kernel_rfl) rfl (by kernel_rfl) (by kernel_rfl) (fun _ _ => by kernel_rfl) ?_
         refine Reg.take (fun _ _ _ _ _ h => h) 14 _ 24 (.int .i32 s1) rfl (by kernel_rfl) (by kernel_rfl) (by kernel_rfl) rfl (by kernel_rfl) (by kernel_rfl) (fun wx hx => Reg.ld1 rfl (by kernel_rfl) ((hx.cell (Nat.lt_of_lt_of_le hbl hb14.size)).trans ((hb14.cell hbl).trans cx1)) (by kernel_rfl)) ?_
         refine Reg.take (fun _ _ _ _ _ h => h) 15 _ 25 (.slice (some ⟨b, off, none⟩) xs.length ca) rfl (by kernel_rfl) (by kernel_rfl) (by kernel_rfl) rfl (by kernel_rfl) (by kernel_rfl) (fun _ _ => by kernel_rfl) ?_
         refine Reg.take (fun _ _ _ _ _ h => h) 16 _ 26 (.int .i64 (k : Int)) rfl (by kernel_rfl) (by kernel_rfl) (by kernel_rfl) rfl (by kernel_rfl) (by kernel_rfl) (fun _ _ => by kernel_rfl) ?_
         refine Reg.take (fun _ _ _ _ _ h => h) 17 _ 27 (.int .i64 (m : Int)) rfl (by kernel_rfl) (by kernel_rfl) (by kernel_rfl) rfl (by kernel_rfl) (by kernel_rfl) (fun _ _ => Reg.subI (k := .i64) (m := (k : Int)) (n := 1) rfl (by kernel_rfl) (by kernel_rfl) hwm) ?_
         refine Reg.take (fun _ _ _ _ _ h => h) 18 _ 28 (.pointer (some ⟨b, off + m * 2, none⟩)) rfl (by kernel_rfl) (by kernel_rfl) (by kernel_rfl) rfl (by kernel_rfl) (by kernel_rfl) (fun wx _ => Reg.ix (len := xs.length) (cap := ca) (q := .i64) rfl (by kernel_rfl) (by kernel_rfl) hml Tryz.underlying23 (elemSize23 wx)) ?_
         refine Reg.take (fun _ _ _ _ _ h => h) 19 _ 29 (.pointer (some ⟨b, off + m * 2 + 1, none⟩)) rfl (by kernel_rfl) (by kernel_rfl) (by kernel_rfl) rfl (by kernel_rfl) (by kernel_rfl) (fun _ _ => by kernel_rfl) ?_
         refine Reg.take (fun _ _ _ _ _ h => h) 20 _ 30 (.int .i32 p2) rfl (by kernel_rfl) (by kernel_rfl) (by kernel_rfl) rfl (by kernel_rfl) (by kernel_rfl) (fun wx hx => Reg.ld1 rfl (by kernel_rfl) ((hx.cell (Nat.lt_of_lt_of_le hbl hb14.size)).trans ((hb14.cell hbl).trans cp2)) (by kernel_rfl)) ?_
         refine Reg.take (fun _ _ _ _ _ h => h) 21 _ 31 (.int .i32 (s1 - p2)) rfl (by kernel_rfl) (by kernel_rfl) (by kernel_rfl) rfl (by kernel_rfl) (by kernel_rfl) (fun _ _ => Reg.subI (k := .i32) (m := s1) (n := p2) rfl (by kernel_rfl) (by kernel_rfl) hws) ?_
         refine Reg.take (fun _ _ _ _ _ h => h) 22 _ 32 (.bool true) rfl (by kernel_rfl) (by kernel_rfl) (by kernel_rfl) rfl (by kernel_rfl) (by kernel_rfl) (fun _ _ => Reg.lss (k := .i32) (m := s1 - p2) (n := 2) rfl (by kernel_rfl) (by kernel_rfl) (by simp; omega)) ?_
         refine Reg.take (fun _ _ _ _ _ h => h) 23 _ 33 (.bool true) rfl (by kernel_rfl) (by kernel_rfl) (by kernel_rfl) rfl (by kernel_rfl) (by kernel_rfl) (fun _ _ => by kernel_rfl) ?_
         refine Reg.take (fun _ _ _ _ _ h => h) 24 _ 34 (.bool true) rfl (by kernel_rfl) (by kernel_rfl) (by kernel_rfl) rfl (by kernel_rfl) (by kernel_rfl) (fun _ _ => by kernel_rfl) ?_
         refine Reg.done_at (by kernel_rfl) { tmps := #[.slice (some ⟨b, off, none⟩) xs.length ca, undef, u2, .int .i64 (k : Int), .int .i64 (k : Int), .slice (some ⟨b, off, none⟩) xs.length ca, .int .i64 (xs.length : Int), .bool true, u8, u9, .slice (some ⟨b, off, none⟩) xs.length ca, .int .i64 (k : Int), .pointer (some ⟨b, off + k * 2, none⟩), .agg #[.int .i32 s1, .int .i32 s2], .bool true, .bool false, .bool false, .int .i64 (k : Int), .bool true, .bool true, .slice (some ⟨b, off, none⟩) xs.length ca, .int .i64 (k : Int), .pointer (some ⟨b, off + k * 2, none⟩), .pointer (some ⟨b, off + k * 2, none⟩), .int .i32 s1, .slice (some ⟨b, off, none⟩) xs.length ca, .int .i64 (k : Int), .int .i64 (m : Int), .pointer (some ⟨b, off + m * 2, none⟩), .pointer (some ⟨b, off + m * 2 + 1, none⟩), .int .i32 p2, .int .i32 (s1 - p2), .bool true, .bool true, .bool true], defers := [] } (by kernel_rfl) ?_
         have hB3 := nx hBa hb14
         have HN : Hid (¬ S.Canon xs) := fun hc => by
           have e : xs = xs.take (k + 1) ++ xs.drop (k + 1) := (List.take_append_drop _ _).symm
           rw [e, HT.out] at hc
           have h1 := (S.canon_append.1 hc).1
           have := (S.canon_append.1 h1).2.2 _ hPM.out (s1, s2) (by simp)
           simp only at this
           omega
         clear hC cx1 cx2 hd1 hd2 hgood hwa cp2 cp2'
         go_wp2
         go_ret
         exact ⟨told_no HN.out, hB3⟩
       · go_wp2_with fail
         have cp2 : wr.drew.cell? ⟨b, off + m * 2 + 1, none⟩ = some (.int .i32 p2) := cp2'
         obtain ⟨wa, hwa⟩ : ∃ wa, wa = wr.drew := ⟨_, rfl⟩
         have hBa : Below w.heap.size w wa := by rw [hwa]; exact hB.drew
         have cx1 : wa.cell? ⟨b, off + k * 2, none⟩ = some (.int .i32 s1) := by rw [hwa]; exact hd1
         have cx2 : wa.cell? ⟨b, off + k * 2 + 1, none⟩ = some (.int .i32 s2) := by rw [hwa]; exact hd2
         have hbl : b < wa.heap.size := cell_lt cx1
         refine Reg.start (B := wa.heap.size) (by kernel_rfl) ?_
         rw [← hwa]
         rw [← hwa] at cp2
         refine Reg.take (fun _ _ _ _ _ h => h) 0 _ 10 (.slice (some ⟨b, off, none⟩) xs.length ca) rfl (by kernel_rfl) (by kernel_rfl) (by kernel_rfl) rfl (by kernel_rfl) (by kernel_rfl) (fun _ _ => by kernel_rfl) ?_
         refine Reg.take (fun _ _ _ _ _ h => h) 1 _ 11 (.int .i64 (k : Int)) rfl (by kernel_rfl) (by kernel_rfl) (by kernel_rfl) rfl (by kernel_rfl) (by kernel_rfl) (fun _ _ => by kernel_rfl) ?_
         refine Reg.take (fun _ _ _ _ _ h => h) 2 _ 12 (.pointer (some ⟨b, off + k * 2, none⟩)) rfl (by kernel_rfl) (by kernel_rfl) (by kernel_rfl) rfl (by kernel_rfl) (by kernel_rfl) (fun wx _ => Reg.ix (len := xs.length) (cap := ca) (q := .i64) rfl (by kernel_rfl) (by kernel_rfl) hlt Tryz.underlying23 (elemSize23 wx)) ?_
         refine Reg.take (fun _ _ _ _ _ h => h) 3 _ 13 (.agg #[.int .i32 s1, .int .i32 s2]) rfl (by kernel_rfl) (by kernel_rfl) (by kernel_rfl) rfl (by kernel_rfl) (by kernel_rfl) (fun wx hx => Reg.ld (cs := [.int .i32 s1, .int .i32 s2]) rfl (by kernel_rfl) (range_two ((hx.cell hbl).trans cx1) ((hx.cell hbl).trans cx2)) Tryz.underlying69 rfl (by kernel_rfl)) ?_
         refine Reg.call 4 _ 14 122 _ _ #[.agg #[.int .i32 s1, .int .i32 s2]] rfl (by kernel_rfl) rfl (by kernel_rfl) (by kernel_rfl) rfl (by kernel_rfl) (by kernel_rfl) (hgood wa) ?_
         rintro e w14 ⟨rfl, hb14⟩
         refine ⟨_, w14.heap.size, rfl, hb14.size, hb14, ?_⟩
         refine Reg.take (fun _ _ _ _ _ h => h) 5 _ 15 (.bool false) rfl (by kernel_rfl) (by kernel_rfl) (by kernel_rfl) rfl (by kernel_rfl) (by kernel_rfl) (fun _ _ => by kernel_rfl) ?_
         refine Reg.take (fun _ _ _ _ _ h => h) 6 _ 16 (.bool false) rfl (by kernel_rfl) (by kernel_rfl) (by kernel_rfl) rfl (by kernel_rfl) (by kernel_rfl) (fun _ _ => by kernel_rfl) ?_
         refine Reg.take (fun _ _ _ _ _ h => h) 7 _ 17 (.int .i64 (k : Int)) rfl (by kernel_rfl) (by kernel_rfl) (by kernel_rfl) rfl (by kernel_rfl) (by kernel_rfl) (fun _ _ => by kernel_rfl) ?_
         refine Reg.take (fun _ _ _ _ _ h => h) 8 _ 18 (.bool true) rfl (by kernel_rfl) (by kernel_rfl) (by kernel_rfl) rfl (by kernel_rfl) (by kernel_rfl) (fun _ _ => Reg.gtr (k := .i64) (m := (k : Int)) (n := 0) rfl (by kernel_rfl) (by kernel_rfl) (by simp; omega)) ?_
         refine Reg.take (fun _ _ _ _ _ h => h) 9 _ 19 (.bool true) rfl (by kernel_rfl) (by kernel_rfl) (by kernel_rfl) rfl (by kernel_rfl) (by kernel_rfl) (fun _ _ => by kernel_rfl) ?_
         refine Reg.take (fun _ _ _ _ _ h => h) 10 _ 20 (.slice (some ⟨b, off, none⟩) xs.length ca) rfl (by kernel_rfl) (by kernel_rfl) (by kernel_rfl) rfl (by kernel_rfl) (by kernel_rfl) (fun _ _ => by kernel_rfl) ?_
         refine Reg.take (fun _ _ _ _ _ h => h) 11 _ 21 (.int .i64 (k : Int)) rfl (by kernel_rfl) (by kernel_rfl) (by kernel_rfl) rfl (by kernel_rfl) (by kernel_rfl) (fun _ _ => by kernel_rfl) ?_
         refine Reg.take (fun _ _ _ _ _ h => h) 12 _ 22 (.pointer (some ⟨b, off + k * 2, none⟩)) rfl (by kernel_rfl) (by kernel_rfl) (by kernel_rfl) rfl (by kernel_rfl) (by kernel_rfl) (fun wx _ => Reg.ix (len := xs.length) (cap := ca) (q := .i64) rfl (by kernel_rfl) (by kernel_rfl) hlt Tryz.underlying23 (elemSize23 wx)) ?_
         refine Reg.take (fun _ _ _ _ _ h => h) 13 _ 23 (.pointer (some ⟨b, off + k * 2, none⟩)) rfl (by kernel_rfl) (by kernel_rfl) (by kernel_rfl) rfl (by kernel_rfl) (by kernel_rfl) (fun _ _ => by kernel_rfl) ?_
         refine Reg.take (fun _ _ _ _ _ h => h) 14 _ 24 (.int .i32 s1) rfl (by kernel_rfl) (by kernel_rfl) (by kernel_rfl) rfl (by kernel_rfl) (by kernel_rfl) (fun wx hx => Reg.ld1 rfl (by kernel_rfl) ((hx.cell (Nat.lt_of_lt_of_le hbl hb14.size)).trans ((hb14.cell hbl).trans cx1)) (by kernel_rfl)) ?_
         refine Reg.take (fun _ _ _ _ _ h => h) 15 _ 25 (.slice (some ⟨b, off, none⟩) xs.length ca) rfl (by kernel_rfl) (by kernel_rfl) (by kernel_rfl) rfl (by kernel_rfl) (by kernel_rfl) (fun _ _ => by kernel_rfl) ?_
         refine Reg.take (fun _ _ _ _ _ h => h) 16 _ 26 (.int .i64 (k : Int)) rfl (by kernel_rfl) (by kernel_rfl) (by kernel_rfl) rfl (by kernel_rfl) (by kernel_rfl) (fun _ _ => by kernel_rfl) ?_
         refine Reg.take (fun _ _ _ _ _ h => h) 17 _ 27 (.int .i64 (m : Int)) rfl (by kernel_rfl) (by kernel_rfl) (by kernel_rfl) rfl (by kernel_rfl) (by kernel_rfl) (fun _ _ => Reg.subI (k := .i64) (m := (k : Int)) (n := 1) rfl (by kernel_rfl) (by kernel_rfl) hwm) ?_
         refine Reg.take (fun _ _ _ _ _ h => h) 18 _ 28 (.pointer (some ⟨b, off + m * 2, none⟩)) rfl (by kernel_rfl) (by kernel_rfl) (by kernel_rfl) rfl (by kernel_rfl) (by kernel_rfl) (fun wx _ => Reg.ix (len := xs.length) (cap := ca) (q := .i64) rfl (by kernel_rfl) (by kernel_rfl) hml Tryz.underlying23 (elemSize23 wx)) ?_
         refine Reg.take (fun _ _ _ _ _ h => h) 19 _ 29 (.pointer (some ⟨b, off + m * 2 + 1, none⟩)) rfl (by kernel_rfl) (by kernel_rfl) (by kernel_rfl) rfl (by kernel_rfl) (by kernel_rfl) (fun _ _ => by kernel_rfl) ?_
         refine Reg.take (fun _ _ _ _ _ h => h) 20 _ 30 (.int .i32 p2) rfl (by kernel_rfl) (by kernel_rfl) (by kernel_rfl) rfl (by kernel_rfl) (by kernel_rfl) (fun wx hx => Reg.ld1 rfl (by kernel_rfl) ((hx.cell (Nat.lt_of_lt_of_le hbl hb14.size)).trans ((hb14.cell hbl).trans cp2)) (by kernel_rfl)) ?_
         refine Reg.take (fun _ _ _ _ _ h => h) 21 _ 31 (.int .i32 (s1 - p2)) rfl (by kernel_rfl) (by kernel_rfl) (by kernel_rfl) rfl (by kernel_rfl) (by kernel_rfl) (fun _ _ => Reg.subI (k := .i32) (m := s1) (n := p2) rfl (by kernel_rfl) (by kernel_rfl) hws) ?_
         refine Reg.take (fun _ _ _ _ _ h => h) 22 _ 32 (.bool false) rfl (by kernel_rfl) (by kernel_rfl) (by kernel_rfl) rfl (by kernel_rfl) (by kernel_rfl) (fun _ _ => Reg.lss (k := .i32) (m := s1 - p2) (n := 2) rfl (by kernel_rfl) (by kernel_rfl) (by simp; omega)) ?_
         refine Reg.take (fun _ _ _ _ _ h => h) 23 _ 33 (.bool false) rfl (by kernel_rfl) (by kernel_rfl) (by kernel_rfl) rfl (by kernel_rfl) (by kernel_rfl) (fun _ _ => by kernel_rfl) ?_
         refine Reg.take (fun _ _ _ _ _ h => h) 24 _ 34 (.bool false) rfl (by kernel_rfl) (by kernel_rfl) (by kernel_rfl) rfl (by kernel_rfl) (by kernel_rfl) (fun _ _ => by kernel_rfl) ?_
         refine Reg.done_at (by kernel_rfl) { tmps := #[.slice (some ⟨b, off, none⟩) xs.length ca, undef, u2, .int .i64 (k : Int), .int .i64 (k : Int), .slice (some ⟨b, off, none⟩) xs.length ca, .int .i64 (xs.length : Int), .bool true, u8, u9, .slice (some ⟨b, off, none⟩) xs.length ca, .int .i64 (k : Int), .pointer (some ⟨b, off + k * 2, none⟩), .agg #[.int .i32 s1, .int .i32 s2], .bool true, .bool false, .bool false, .int .i64 (k : Int), .bool true, .bool true, .slice (some ⟨b, off, none⟩) xs.length ca, .int .i64 (k : Int), .pointer (some ⟨b, off + k * 2, none⟩), .pointer (some ⟨b, off + k * 2, none⟩), .int .i32 s1, .slice (some ⟨b, off, none⟩) xs.length ca, .int .i64 (k : Int), .int .i64 (m : Int), .pointer (some ⟨b, off + m * 2, none⟩), .pointer (some ⟨b, off + m * 2 + 1, none⟩), .int .i32 p2, .int .i32 (s1 - p2), .bool false, .bool false, .bool false], defers := [] } (by kernel_rfl) ?_
         have hB3 := nx hBa hb14
         have HC : Hid (S.Canon (xs.take (k + 1))) := by
           show S.Canon _
           rw [HT.out]
           refine S.canon_append.2 ⟨hC, S.canon_one HX.out, fun x hx y hy => ?_⟩
           obtain rfl : y = (s1, s2) := by simpa using hy
           have := hPL.out x hx
           simp only
           omega
         clear hC cx1 cx2 hd1 hd2 hgood hwa cp2 cp2'
         go_wp2
         go_roundw
         case rel => exact ⟨k + 1, by go_num, by omega, HC.out, hB3⟩
         case measure => simp [intOf]; omega
   · obtain rfl : k = xs.length := by omega
     rw [List.take_length] at hC
     have HC := hide hC
     clear hC
     go_wp2
     go_ret
     exact ⟨told_yes HC.out, hB⟩
end Go.Proofs.YteaaijhppmkfeaaGreatDoor.U
