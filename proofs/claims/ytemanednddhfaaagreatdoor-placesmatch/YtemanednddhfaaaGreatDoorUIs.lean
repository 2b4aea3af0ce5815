/- What Is answers. -/
import Derived.Test.YtemanednddhfaaaGreatDoorJG
namespace Go.Proofs.YtemanednddhfaaaGreatDoor.U
open Go.RowKit Go.Shelf
theorem Reg.gtr {P : Program} {w : World} {ρ : Operand → Value} {o : Oper} {t t' : TypeId} {x y : Operand} {k : IntKind} {m n : Int} {b : Bool} (hop : o.op = .binOp .gtr t x y t') (hx : ρ x = .int k m) (hy : ρ y = .int k n) (h : decide (n < m) = b) :
   (execOp ρ o).run P w = .ok (.value (.bool b)) w := by
 obtain ⟨dst, op, type, pos, after, guard⟩ := o
 simp only at hop
 subst hop
 subst h
 simp [execOp, hx, hy, eqGuard, binOp, Op.intCmp]
theorem Reg.sub {P : Program} {w : World} {ρ : Operand → Value} {o : Oper} {t t' : TypeId} {x y : Operand} {k : IntKind} {m n r : Int} (hop : o.op = .binOp .sub t x y t') (hx : ρ x = .int k m) (hy : ρ y = .int k n) (h : k.wrap (m - n) = r) :
   (execOp ρ o).run P w = .ok (.value (.int k r)) w := by
 obtain ⟨dst, op, type, pos, after, guard⟩ := o
 simp only at hop
 subst hop
 subst h
 simp [execOp, hx, hy, eqGuard, binOp, Op.intArith]
def Told (p : Prop) (e : Ending) : Prop := ∃ b, e = .returned (.bool b) ∧ (b = true ↔ p)
theorem told_yes {p : Prop} (h : p) : Told p (.returned (.bool true)) := ⟨true, rfl, by simp [h]⟩
theorem told_no {p : Prop} (h : ¬ p) : Told p (.returned (.bool false)) := ⟨false, rfl, by simp [h]⟩
theorem elemSize23 (w : World) : (sizeOf (Tryz.prog.elem 23)).run Tryz.prog w = .ok 2 w := by kernel_rfl
set_option maxRecDepth 100000 in
set_option maxHeartbeats 4000000 in
theorem is_any (ao : Option Addr) (ca : Nat) (xs : List S.R) (h32 : ∀ r ∈ xs, -2147483648 ≤ r.1 ∧ r.1 ≤ 2147483647 ∧ -2147483648 ≤ r.2 ∧ r.2 ≤ 2147483647) (hl : xs.length ≤ 1000000) (w : World) (h : RdR w ao xs) :
   Calls Tryz.prog 112 #[.slice ao xs.length ca] w fun e W' => Told (S.Canon xs) e ∧ Below w.heap.size w W' := by
 go_enter Tryz.func112, Tryz.ntmps112
 go_wp2
 go_loopw [7] (fun p wr => ∃ k : Nat, p = .int .i64 (k : Int) ∧ k ≤ xs.length ∧ S.Canon (xs.take k) ∧ Below w.heap.size w wr) (fun p _ => xs.length - (intOf p).toNat)
 case atStart => exact ⟨0, rfl, Nat.zero_le _, S.canon_nil, Below.refl _ _⟩
 case round =>
   obtain ⟨k, rfl, hk, hC, hB⟩ := hrel
   by_cases hlt : k < xs.length
   · obtain ⟨b, off, rfl, hd1, hd2⟩ := (h.later hB) k hlt
     have h32k := h32 _ (List.getElem_mem hlt)
     have hmem := List.getElem_mem hlt
     have HT : Hid (xs.take (k + 1) = xs.take k ++ [xs[k]]) := List.take_succ_eq_append_getElem hlt
     have hprev : ∀ m, k = m + 1 → ∃ p1 p2 : Int, xs[m]? = some (p1, p2) ∧ (p1, p2) ∈ xs.take k ∧ (∀ x ∈ xs.take k, x.2 ≤ p2) ∧ wr.cell? ⟨b, off + m * 2, none⟩ = some (.int .i32 p1) ∧ wr.cell? ⟨b, off + m * 2 + 1, none⟩ = some (.int .i32 p2) := by
       rintro m rfl
       obtain ⟨b', off', e, c1, c2⟩ := (h.later hB) m (by omega)
       cases e
       refine ⟨xs[m].1, xs[m].2, by rw [List.getElem?_eq_getElem (by omega)], ?_, ?_, c1, c2⟩
       · rw [List.take_succ_eq_append_getElem (by omega)]
         exact List.mem_append_right _ (List.mem_singleton.2 rfl)
       · intro x hx
         rw [List.take_succ_eq_append_getElem (by omega)] at hx hC
         obtain ⟨_, h2, h3⟩ := S.canon_append.1 hC
         rcases List.mem_append.1 hx with hx | hx
         · have h4 := h3 x hx xs[m] (by simp)
           have h5 := (S.good_iff _).1 (h2.good xs[m] (by simp))
           omega
         · obtain rfl : x = xs[m] := by simpa using hx
           exact Int.le_refl _
     generalize hxk : xs[k] = s at *
     obtain ⟨s1, s2⟩ := s
     simp only at hd1 hd2 h32k
     have hgood := isGood_any s1 s2
     obtain ⟨gx, hgx⟩ : ∃ gx, S.good (s1, s2) = gx := ⟨_, rfl⟩
     rw [hgx] at hgood
     have HX := hide hgx
     clear hgx hxk
     cases gx with
     | false =>
       go_wp2_with fail
       obtain ⟨wa, hwa⟩ : ∃ wa, wa = (wr.alloc (.cells #[.int .i32 s1, .int .i32 s2] 102)).drew := ⟨_, rfl⟩
       have hB1 : Below wr.heap.size wr wa := by rw [hwa]; exact (al1 _ _).drew
       have hbx : wa.heap[wr.heap.size]? = some (.cells #[.int .i32 s1, .int .i32 s2] 102) := by rw [hwa]; exact World.alloc_heap_new wr _
       have hls : wr.heap.size < wa.heap.size := (Array.getElem?_eq_some_iff.1 hbx).1
       have hzr : ∀ {wx : World} {b' o' : Nat} {cs : List Value}, wa.rangeAt b' o' cs → b' < wa.heap.size → Below wa.heap.size wa wx → wx.rangeAt b' o' cs := fun h hl hb j v hj => (hb.cell hl).trans (h j v hj)
       refine Reg.start (B := wa.heap.size) (by kernel_rfl) ?_
       rw [← hwa]
       refine Reg.take (fun _ _ _ _ _ h => h) 0 _ 12 (.agg #[.int .i32 s1, .int .i32 s2]) rfl (by kernel_rfl) (by kernel_rfl) (by kernel_rfl) rfl (by kernel_rfl) (by kernel_rfl) (fun wx hb => Reg.ld (cs := [.int .i32 s1, .int .i32 s2]) rfl (by kernel_rfl) (hzr (range_block hbx) hls hb) Tryz.underlying102 rfl (by kernel_rfl)) ?_
       refine Reg.call 1 _ 13 118 _ _ #[.agg #[.int .i32 s1, .int .i32 s2]] rfl (by kernel_rfl) rfl (by kernel_rfl) (by kernel_rfl) rfl (by kernel_rfl) (by kernel_rfl) (hgood wa) ?_
       rintro e w13 ⟨rfl, hb13⟩
       refine ⟨_, w13.heap.size, rfl, hb13.size, hb13, ?_⟩
       refine Reg.take (fun _ _ _ _ _ h => h) 2 _ 14 (.bool true) rfl (by kernel_rfl) (by kernel_rfl) (by kernel_rfl) rfl (by kernel_rfl) (by kernel_rfl) (fun _ _ => by kernel_rfl) ?_
       refine Reg.take (fun _ _ _ _ _ h => h) 3 _ 15 (.bool true) rfl (by kernel_rfl) (by kernel_rfl) (by kernel_rfl) rfl (by kernel_rfl) (by kernel_rfl) (fun _ _ => by kernel_rfl) ?_
       refine Reg.skip (fun _ _ _ _ _ h => h) 4 _ 16 rfl (by kernel_rfl) (by kernel_rfl) (by kernel_rfl) rfl (by kernel_rfl) (by kernel_rfl) ?_
       refine Reg.skip (fun _ _ _ _ _ h => h) 5 _ 17 rfl (by kernel_rfl) (by kernel_rfl) (by kernel_rfl) rfl (by kernel_rfl) (by kernel_rfl) ?_
       refine Reg.skip (fun _ _ _ _ _ h => h) 6 _ 18 rfl (by kernel_rfl) (by kernel_rfl) (by kernel_rfl) rfl (by kernel_rfl) (by kernel_rfl) ?_
       refine Reg.skip (fun _ _ _ _ _ h => h) 7 _ 19 rfl (by kernel_rfl) (by kernel_rfl) (by kernel_rfl) rfl (by kernel_rfl) (by kernel_rfl) ?_
       refine Reg.skip (fun _ _ _ _ _ h => h) 8 _ 20 rfl (by kernel_rfl) (by kernel_rfl) (by kernel_rfl) rfl (by kernel_rfl) (by kernel_rfl) ?_
       refine Reg.skip (fun _ _ _ _ _ h => h) 9 _ 21 rfl (by kernel_rfl) (by kernel_rfl) (by kernel_rfl) rfl (by kernel_rfl) (by kernel_rfl) ?_
       refine Reg.skip (fun _ _ _ _ _ h => h) 10 _ 22 rfl (by kernel_rfl) (by kernel_rfl) (by kernel_rfl) rfl (by kernel_rfl) (by kernel_rfl) ?_
       refine Reg.skip (fun _ _ _ _ _ h => h) 11 _ 23 rfl (by kernel_rfl) (by kernel_rfl) (by kernel_rfl) rfl (by kernel_rfl) (by kernel_rfl) ?_
       refine Reg.skip (fun _ _ _ _ _ h => h) 12 _ 24 rfl (by kernel_rfl) (by kernel_rfl) (by kernel_rfl) rfl (by kernel_rfl) (by kernel_rfl) ?_
       refine Reg.skip (fun _ _ _ _ _ h => h) 13 _ 25 rfl (by kernel_rfl) (by kernel_rfl) (by kernel_rfl) rfl (by kernel_rfl) (by kernel_rfl) ?_
       refine Reg.skip (fun _ _ _ _ _ h => h) 14 _ 26 rfl (by kernel_rfl) (by kernel_rfl) (by kernel_rfl) rfl (by kernel_rfl) (by kernel_rfl) ?_
       refine Reg.skip (fun _ _ _ _ _ h => h) 15 _ 27 rfl (by kernel_rfl) (by kernel_rfl) (by kernel_rfl) rfl (by kernel_rfl) (by kernel_rfl) ?_
       refine Reg.skip (fun _ _ _ _ _ h => h) 16 _ 28 rfl (by kernel_rfl) (by kernel_rfl) (by kernel_rfl) rfl (by kernel_rfl) (by kernel_rfl) ?_
       refine Reg.skip (fun _ _ _ _ _ h => h) 17 _ 29 rfl (by kernel_rfl) (by kernel_rfl) (by kernel_rfl) rfl (by kernel_rfl) (by kernel_rfl) ?_
       refine Reg.take (fun _ _ _ _ _ h => h) 18 _ 30 (.bool true) rfl (by kernel_rfl) (by kernel_rfl) (by kernel_rfl) rfl (by kernel_rfl) (by kernel_rfl) (fun _ _ => by kernel_rfl) ?_
       refine Reg.done_at (by kernel_rfl) { tmps := #[.slice (some ⟨b, off, none⟩) xs.length ca, undef, u2, .int .i64 (k : Int), .pointer (some ⟨wr.heap.size, 0, none⟩), .slice (some ⟨b, off, none⟩) xs.length ca, .int .i64 (xs.length : Int), .int .i64 (k : Int), .bool true, .int .i64 (k : Int), .pointer (some ⟨b, off + k * 2, none⟩), .agg #[.int .i32 s1, .int .i32 s2], .agg #[.int .i32 s1, .int .i32 s2], .bool false, .bool true, .bool true, undef, undef, undef, undef, undef, undef, undef, undef, undef, undef, undef, undef, undef, undef, .bool true, u31], defers := [] } (by kernel_rfl) ?_
       have hB3 := nx (nx hB hB1) hb13
       have hnC : ¬ S.Canon xs := fun hc => by
         have := hc.good _ hmem
         rw [HX.out] at this
         cases this
       clear hprev hgood h
       go_wp2
       go_ret
       exact ⟨told_no hnC, hB3⟩
     | true =>
      by_cases hk0 : k = 0
      ·
       have HD0 : Hid (decide (0 < (k : Int)) = false) := decide_eq_false (by omega)
       have HK0 := hide hk0
       clear hk0
       go_wp2_with fail
       obtain ⟨wa, hwa⟩ : ∃ wa, wa = (wr.alloc (.cells #[.int .i32 s1, .int .i32 s2] 102)).drew := ⟨_, rfl⟩
       have hB1 : Below wr.heap.size wr wa := by rw [hwa]; exact (al1 _ _).drew
       have hbx : wa.heap[wr.heap.size]? = some (.cells #[.int .i32 s1, .int .i32 s2] 102) := by rw [hwa]; exact World.alloc_heap_new wr _
       have hls : wr.heap.size < wa.heap.size := (Array.getElem?_eq_some_iff.1 hbx).1
       have hzr : ∀ {wx : World} {b' o' : Nat} {cs : List Value}, wa.rangeAt b' o' cs → b' < wa.heap.size → Below wa.heap.size wa wx → wx.rangeAt b' o' cs := fun h hl hb j v hj => (hb.cell hl).trans (h j v hj)
       refine Reg.start (B := wa.heap.size) (by kernel_rfl) ?_
       rw [← hwa]
       refine Reg.take (fun _ _ _ _ _ h => h) 0 _ 12 (.agg #[.int .i32 s1, .int .i32 s2]) rfl (by kernel_rfl) (by kernel_rfl) (by kernel_rfl) rfl (by kernel_rfl) (by kernel_rfl) (fun wx hb => Reg.ld (cs := [.int .i32 s1, .int .i32 s2]) rfl (by kernel_rfl) (hzr (range_block hbx) hls hb) Tryz.underlying102 rfl (by kernel_rfl)) ?_
       refine Reg.call 1 _ 13 118 _ _ #[.agg #[.int .i32 s1, .int .i32 s2]] rfl (by kernel_rfl) rfl (by kernel_rfl) (by kernel_rfl) rfl (by kernel_rfl) (by kernel_rfl) (hgood wa) ?_
       rintro e w13 ⟨rfl, hb13⟩
       refine ⟨_, w13.heap.size, rfl, hb13.size, hb13, ?_⟩
       refine Reg.take (fun _ _ _ _ _ h => h) 2 _ 14 (.bool false) rfl (by kernel_rfl) (by kernel_rfl) (by kernel_rfl) rfl (by kernel_rfl) (by kernel_rfl) (fun _ _ => by kernel_rfl) ?_
       refine Reg.take (fun _ _ _ _ _ h => h) 3 _ 15 (.bool false) rfl (by kernel_rfl) (by kernel_rfl) (by kernel_rfl) rfl (by kernel_rfl) (by kernel_rfl) (fun _ _ => by kernel_rfl) ?_
       refine Reg.take (fun _ _ _ _ _ h => h) 4 _ 16 (.int .i64 (k : Int)) rfl (by kernel_rfl) (by kernel_rfl) (by kernel_rfl) rfl (by kernel_rfl) (by kernel_rfl) (fun _ _ => by kernel_rfl) ?_
       refine Reg.take (fun _ _ _ _ _ h => h) 5 _ 17 (.bool false) rfl (by kernel_rfl) (by kernel_rfl) (by kernel_rfl) rfl (by kernel_rfl) (by kernel_rfl) (fun _ _ => Reg.gtr (k := .i64) (m := (k : Int)) (n := 0) rfl (by kernel_rfl) (by kernel_rfl) HD0.out) ?_
       refine Reg.take (fun _ _ _ _ _ h => h) 6 _ 18 (.bool false) rfl (by kernel_rfl) (by kernel_rfl) (by kernel_rfl) rfl (by kernel_rfl) (by kernel_rfl) (fun _ _ => by kernel_rfl) ?_
       refine Reg.skip (fun _ _ _ _ _ h => h) 7 _ 19 rfl (by kernel_rfl) (by kernel_rfl) (by kernel_rfl) rfl (by kernel_rfl) (by kernel_rfl) ?_
       refine Reg.skip (fun _ _ _ _ _ h => h) 8 _ 20 rfl (by kernel_rfl) (by kernel_rfl) (by kernel_rfl) rfl (by kernel_rfl) (by kernel_rfl) ?_
       refine Reg.skip (fun _ _ _ _ _ h => h) 9 _ 21 rfl (by kernel_rfl) (by kernel_rfl) (by kernel_rfl) rfl (by kernel_rfl) (by kernel_rfl) ?_
       refine Reg.skip (fun _ _ _ _ _ h => h) 10 _ 22 rfl (by kernel_rfl) (by kernel_rfl) (by kernel_rfl) rfl (by kernel_rfl) (by kernel_rfl) ?_
       refine Reg.skip (fun _ _ _ _ _ h => h) 11 _ 23 rfl (by kernel_rfl) (by kernel_rfl) (by kernel_rfl) rfl (by kernel_rfl) (by kernel_rfl) ?_
       refine Reg.skip (fun _ _ _ _ _ h => h) 12 _ 24 rfl (by kernel_rfl) (by kernel_rfl) (by kernel_rfl) rfl (by kernel_rfl) (by kernel_rfl) ?_
       refine Reg.skip (fun _ _ _ _ _ h => h) 13 _ 25 rfl (by kernel_rfl) (by kernel_rfl) (by kernel_rfl) rfl (by kernel_rfl) (by kernel_rfl) ?_
       refine Reg.skip (fun _ _ _ _ _ h => h) 14 _ 26 rfl (by kernel_rfl) (by kernel_rfl) (by kernel_rfl) rfl (by kernel_rfl) (by kernel_rfl) ?_
       refine Reg.skip (fun _ _ _ _ _ h => h) 15 _ 27 rfl (by kernel_rfl) (by kernel_rfl) (by kernel_rfl) rfl (by kernel_rfl) (by kernel_rfl) ?_
       refine Reg.skip (fun _ _ _ _ _ h => h) 16 _ 28 rfl (by kernel_rfl) (by kernel_rfl) (by kernel_rfl) rfl (by kernel_rfl) (by kernel_rfl) ?_
       refine Reg.take (fun _ _ _ _ _ h => h) 17 _ 29 (.bool false) rfl (by kernel_rfl) (by kernel_rfl) (by kernel_rfl) rfl (by kernel_rfl) (by kernel_rfl) (fun _ _ => by kernel_rfl) ?_
       refine Reg.take (fun _ _ _ _ _ h => h) 18 _ 30 (.bool false) rfl (by kernel_rfl) (by kernel_rfl) (by kernel_rfl) rfl (by kernel_rfl) (by kernel_rfl) (fun _ _ => by kernel_rfl) ?_
       refine Reg.done_at (by kernel_rfl) { tmps := #[.slice (some ⟨b, off, none⟩) xs.length ca, undef, u2, .int .i64 (k : Int), .pointer (some ⟨wr.heap.size, 0, none⟩), .slice (some ⟨b, off, none⟩) xs.length ca, .int .i64 (xs.length : Int), .int .i64 (k : Int), .bool true, .int .i64 (k : Int), .pointer (some ⟨b, off + k * 2, none⟩), .agg #[.int .i32 s1, .int .i32 s2], .agg #[.int .i32 s1, .int .i32 s2], .bool true, .bool false, .bool false, .int .i64 (k : Int), .bool false, .bool false, undef, undef, undef, undef, undef, undef, undef, undef, undef, undef, .bool false, .bool false, u31], defers := [] } (by kernel_rfl) ?_
       have hB3 := nx (nx hB hB1) hb13
       clear hprev hgood h
       go_wp2
       go_roundw
       case rel => exact ⟨k + 1, by go_num, by omega, by rw [HT.out, HK0.out]; exact S.canon_one HX.out, hB3⟩
       case measure => simp [intOf]; omega
      ·
       obtain ⟨m, hm⟩ : ∃ m, k = m + 1 := ⟨k - 1, by omega⟩
       obtain ⟨p1, p2, hpm, hpt, hpl, hp1, hp2⟩ := hprev m hm
       have hgp := (S.good_iff _).1 (hC.good _ hpt)
       simp only at hgp
       have hap := apart_any p1 p2 s1 s2 (by omega) (by omega)
       have hwm : IntKind.i64.wrap ((k : Int) - 1) = (m : Int) := by simp [IntKind.wrap, IntKind.bits, IntKind.signed]; omega
       have HM := hide hm
       have HD1 : Hid (decide (0 < (k : Int)) = true) := decide_eq_true (by omega)
       have hml : m < xs.length := by omega
       clear hm hk0
       go_wp2_with fail
       obtain ⟨wa, hwa⟩ : ∃ wa, wa = (wr.alloc (.cells #[.int .i32 s1, .int .i32 s2] 102)).drew := ⟨_, rfl⟩
       have hB1 : Below wr.heap.size wr wa := by rw [hwa]; exact (al1 _ _).drew
       have hbx : wa.heap[wr.heap.size]? = some (.cells #[.int .i32 s1, .int .i32 s2] 102) := by rw [hwa]; exact World.alloc_heap_new wr _
       have hls : wr.heap.size < wa.heap.size := (Array.getElem?_eq_some_iff.1 hbx).1
       have hzr : ∀ {wx : World} {b' o' : Nat} {cs : List Value}, wa.rangeAt b' o' cs → b' < wa.heap.size → Below wa.heap.size wa wx → wx.rangeAt b' o' cs := fun h hl hb j v hj => (hb.cell hl).trans (h j v hj)
       have hpa : wa.rangeAt b (off + m * 2) [.int .i32 p1, .int .i32 p2] := range_two (cell_later hB1 hp1) (cell_later hB1 hp2)
       have hlb : b < wa.heap.size := Nat.lt_of_lt_of_le (cell_lt hp1) hB1.size
       refine Reg.start (B := wa.heap.size) (by kernel_rfl) ?_
       rw [← hwa]
       refine Reg.take (fun _ _ _ _ _ h => h) 0 _ 12 (.agg #[.int .i32 s1, .int .i32 s2]) rfl (by kernel_rfl) (by kernel_rfl) (by kernel_rfl) rfl (by kernel_rfl) (by kernel_rfl) (fun wx hb => Reg.ld (cs := [.int .i32 s1, .int .i32 s2]) rfl (by kernel_rfl) (hzr (range_block hbx) hls hb) Tryz.underlying102 rfl (by kernel_rfl)) ?_
       refine Reg.call 1 _ 13 118 _ _ #[.agg #[.int .i32 s1, .int .i32 s2]] rfl (by kernel_rfl) rfl (by kernel_rfl) (by kernel_rfl) rfl (by kernel_rfl) (by kernel_rfl) (hgood wa) ?_
       rintro e w13 ⟨rfl, hb13⟩
       refine ⟨_, w13.heap.size, rfl, hb13.size, hb13, ?_⟩
       refine Reg.take (fun _ _ _ _ _ h => h) 2 _ 14 (.bool false) rfl (by kernel_rfl) (by kernel_rfl) (by kernel_rfl) rfl (by kernel_rfl) (by kernel_rfl) (fun _ _ => by kernel_rfl) ?_
       refine Reg.take (fun _ _ _ _ _ h => h) 3 _ 15 (.bool false) rfl (by kernel_rfl) (by kernel_rfl) (by kernel_rfl) rfl (by kernel_rfl) (by kernel_rfl) (fun _ _ => by kernel_rfl) ?_
       refine Reg.take (fun _ _ _ _ _ h => h) 4 _ 16 (.int .i64 (k : Int)) rfl (by kernel_rfl) (by kernel_rfl) (by kernel_rfl) rfl (by kernel_rfl) (by kernel_rfl) (fun _ _ => by kernel_rfl) ?_
       refine Reg.take (fun _ _ _ _ _ h => h) 5 _ 17 (.bool true) rfl (by kernel_rfl) (by kernel_rfl) (by kernel_rfl) rfl (by kernel_rfl) (by kernel_rfl) (fun _ _ => Reg.gtr (k := .i64) (m := (k : Int)) (n := 0) rfl (by kernel_rfl) (by kernel_rfl) HD1.out) ?_
       refine Reg.take (fun _ _ _ _ _ h => h) 6 _ 18 (.bool true) rfl (by kernel_rfl) (by kernel_rfl) (by kernel_rfl) rfl (by kernel_rfl) (by kernel_rfl) (fun _ _ => by kernel_rfl) ?_
       refine Reg.take (fun _ _ _ _ _ h => h) 7 _ 19 (.slice (some ⟨b, off, none⟩) xs.length ca) rfl (by kernel_rfl) (by kernel_rfl) (by kernel_rfl) rfl (by kernel_rfl) (by kernel_rfl) (fun _ _ => by kernel_rfl) ?_
       refine Reg.take (fun _ _ _ _ _ h => h) 8 _ 20 (.int .i64 (k : Int)) rfl (by kernel_rfl) (by kernel_rfl) (by kernel_rfl) rfl (by kernel_rfl) (by kernel_rfl) (fun _ _ => by kernel_rfl) ?_
       refine Reg.take (fun _ _ _ _ _ h => h) 9 _ 21 (.int .i64 (m : Int)) rfl (by kernel_rfl) (by kernel_rfl) (by kernel_rfl) rfl (by kernel_rfl) (by kernel_rfl) (fun _ _ => Reg.sub (k := .i64) (m := (k : Int)) (n := 1) rfl (by kernel_rfl) (by kernel_rfl) hwm) ?_
       refine Reg.take (fun _ _ _ _ _ h => h) 10 _ 22 (.pointer (some ⟨b, off + m * 2, none⟩)) rfl (by kernel_rfl) (by kernel_rfl) (by kernel_rfl) rfl (by kernel_rfl) (by kernel_rfl) (fun wx _ => Reg.ix (len := xs.length) (cap := ca) (q := .i64) rfl (by kernel_rfl) (by kernel_rfl) hml Tryz.underlying23 (elemSize23 wx)) ?_
       refine Reg.take (fun _ _ _ _ _ h => h) 11 _ 23 (.agg #[.int .i32 p1, .int .i32 p2]) rfl (by kernel_rfl) (by kernel_rfl) (by kernel_rfl) rfl (by kernel_rfl) (by kernel_rfl) (fun wx hb => Reg.ld (cs := [.int .i32 p1, .int .i32 p2]) rfl (by kernel_rfl) (hzr hpa hlb (nx hb13 hb)) Tryz.underlying102 rfl (by kernel_rfl)) ?_
       refine Reg.take (fun _ _ _ _ _ h => h) 13 _ 25 (.agg #[.int .i32 s1, .int .i32 s2]) rfl (by kernel_rfl) (by kernel_rfl) (by kernel_rfl) rfl (by kernel_rfl) (by kernel_rfl) (fun wx hb => Reg.ld (cs := [.int .i32 s1, .int .i32 s2]) rfl (by kernel_rfl) (hzr (range_block hbx) hls (nx hb13 hb)) Tryz.underlying102 rfl (by kernel_rfl)) ?_
       refine Reg.call 12 _ 24 119 _ _ #[.agg #[.int .i32 p1, .int .i32 p2]] rfl (by kernel_rfl) rfl (by kernel_rfl) (by kernel_rfl) rfl (by kernel_rfl) (by kernel_rfl) (spanOf_any p1 p2 w13) ?_
       rintro e w24 ⟨rfl, hb24⟩
       refine ⟨_, w24.heap.size, rfl, hb24.size, hb24, ?_⟩
       refine Reg.call 14 _ 26 119 _ _ #[.agg #[.int .i32 s1, .int .i32 s2]] rfl (by kernel_rfl) rfl (by kernel_rfl) (by kernel_rfl) rfl (by kernel_rfl) (by kernel_rfl) (spanOf_any s1 s2 w24) ?_
       rintro e w26 ⟨rfl, hb26⟩
       refine ⟨_, w26.heap.size, rfl, hb26.size, hb26, ?_⟩
       refine Reg.call 15 _ 27 139 _ _ #[.agg #[.int .i32 p1, .int .i32 p2], .agg #[.int .i32 s1, .int .i32 s2]] rfl (by kernel_rfl) rfl (by kernel_rfl) (by kernel_rfl) rfl (by kernel_rfl) (by kernel_rfl) (hap w26) ?_
       rintro e w27 ⟨rfl, hb27⟩
       refine ⟨_, w27.heap.size, rfl, hb27.size, hb27, ?_⟩
       have hB3 := nx (nx (nx (nx (nx hB hB1) hb13) hb24) hb26) hb27
       clear hprev hgood h hap
       by_cases hlt2 : p2 + 1 < s1
       · rw [decide_eq_true hlt2]
         refine Reg.take (fun _ _ _ _ _ h => h) 16 _ 28 (.bool false) rfl (by kernel_rfl) (by kernel_rfl) (by kernel_rfl) rfl (by kernel_rfl) (by kernel_rfl) (fun _ _ => by kernel_rfl) ?_
         refine Reg.take (fun _ _ _ _ _ h => h) 17 _ 29 (.bool false) rfl (by kernel_rfl) (by kernel_rfl) (by kernel_rfl) rfl (by kernel_rfl) (by kernel_rfl) (fun _ _ => by kernel_rfl) ?_
         refine Reg.take (fun _ _ _ _ _ h => h) 18 _ 30 (.bool false) rfl (by kernel_rfl) (by kernel_rfl) (by kernel_rfl) rfl (by kernel_rfl) (by kernel_rfl) (fun _ _ => by kernel_rfl) ?_
         refine Reg.done_at (by kernel_rfl) { tmps := #[.slice (some ⟨b, off, none⟩) xs.length ca, undef, u2, .int .i64 (k : Int), .pointer (some ⟨wr.heap.size, 0, none⟩), .slice (some ⟨b, off, none⟩) xs.length ca, .int .i64 (xs.length : Int), .int .i64 (k : Int), .bool true, .int .i64 (k : Int), .pointer (some ⟨b, off + k * 2, none⟩), .agg #[.int .i32 s1, .int .i32 s2], .agg #[.int .i32 s1, .int .i32 s2], .bool true, .bool false, .bool false, .int .i64 (k : Int), .bool true, .bool true, .slice (some ⟨b, off, none⟩) xs.length ca, .int .i64 (k : Int), .int .i64 (m : Int), .pointer (some ⟨b, off + m * 2, none⟩), .agg #[.int .i32 p1, .int .i32 p2], .agg #[.int .i32 p1, .int .i32 p2], .agg #[.int .i32 s1, .int .i32 s2], .agg #[.int .i32 s1, .int .i32 s2], .bool true, .bool false, .bool false, .bool false, u31], defers := [] } (by kernel_rfl) ?_
         go_wp2
         go_roundw
         case rel => exact ⟨k + 1, by go_num, by omega, by
           rw [HT.out]
           refine S.canon_append.2 ⟨hC, S.canon_one HX.out, fun x hx y hy => ?_⟩
           obtain rfl : y = (s1, s2) := by simpa using hy
           have := hpl x hx
           simp only
           omega, hB3⟩
         case measure => simp [intOf]; omega
       · rw [decide_eq_false hlt2]
         refine Reg.take (fun _ _ _ _ _ h => h) 16 _ 28 (.bool true) rfl (by kernel_rfl) (by kernel_rfl) (by kernel_rfl) rfl (by kernel_rfl) (by kernel_rfl) (fun _ _ => by kernel_rfl) ?_
         refine Reg.take (fun _ _ _ _ _ h => h) 17 _ 29 (.bool true) rfl (by kernel_rfl) (by kernel_rfl) (by kernel_rfl) rfl (by kernel_rfl) (by kernel_rfl) (fun _ _ => by kernel_rfl) ?_
         refine Reg.take (fun _ _ _ _ _ h => h) 18 _ 30 (.bool true) rfl (by kernel_rfl) (by kernel_rfl) (by kernel_rfl) rfl (by kernel_rfl) (by kernel_rfl) (fun _ _ => by kernel_rfl) ?_
         refine Reg.done_at (by kernel_rfl) { tmps := #[.slice (some ⟨b, off, none⟩) xs.length ca, undef, u2, .int .i64 (k : Int), .pointer (some ⟨wr.heap.size, 0, none⟩), .slice (some ⟨b, off, none⟩) xs.length ca, .int .i64 (xs.length : Int), .int .i64 (k : Int), .bool true, .int .i64 (k : Int), .pointer (some ⟨b, off + k * 2, none⟩), .agg #[.int .i32 s1, .int .i32 s2], .agg #[.int .i32 s1, .int .i32 s2], .bool true, .bool false, .bool false, .int .i64 (k : Int), .bool true, .bool true, .slice (some ⟨b, off, none⟩) xs.length ca, .int .i64 (k : Int), .int .i64 (m : Int), .pointer (some ⟨b, off + m * 2, none⟩), .agg #[.int .i32 p1, .int .i32 p2], .agg #[.int .i32 p1, .int .i32 p2], .agg #[.int .i32 s1, .int .i32 s2], .agg #[.int .i32 s1, .int .i32 s2], .bool false, .bool true, .bool true, .bool true, u31], defers := [] } (by kernel_rfl) ?_
         have HN : Hid (¬ S.Canon xs) := fun hc => by
           have e : xs = xs.take (k + 1) ++ xs.drop (k + 1) := (List.take_append_drop _ _).symm
           rw [e, HT.out] at hc
           have h1 := (S.canon_append.1 hc).1
           have := (S.canon_append.1 h1).2.2 _ hpt (s1, s2) (by simp)
           exact hlt2 this
         go_wp2
         go_ret
         exact ⟨told_no HN.out, hB3⟩
   · obtain rfl : k = xs.length := by omega
     rw [List.take_length] at hC
     have HC := hide hC
     clear hC
     go_wp2
     go_ret
     exact ⟨told_yes HC.out, hB⟩
end Go.Proofs.YtemanednddhfaaaGreatDoor.U
