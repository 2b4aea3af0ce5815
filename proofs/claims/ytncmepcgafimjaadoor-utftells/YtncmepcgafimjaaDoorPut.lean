/- What the reference's Put and Bytes answer. -/
import Derived.Test.YtncmepcgafimjaaDoorTorn
import Derived.Laws.BitsLemmas
namespace Go.Proofs.YtncmepcgafimjaaDoor
open Go.RowKit

theorem and63 (x : Int) (h0 : 0 ≤ x) (h1 : x < 2147483648) : bits .and .i32 x 63 = x % 64 := bits_mask .i32 31 (by decide) wraps_i32 6 (by decide) x h0 h1
theorem or128 (y : Int) (h0 : 0 ≤ y) (h1 : y < 64) : bits .or .i32 128 y = 128 + y := i32_or6 128 y (by decide) (by decide) (by decide) h0 h1
theorem or224 (y : Int) (h0 : 0 ≤ y) (h1 : y < 16) : bits .or .i32 224 y = 224 + y := bits_join .i32 31 (by decide) wraps_i32 4 224 y (by decide) (by decide) (by decide) h0 h1 (by omega)
theorem or240 (y : Int) (h0 : 0 ≤ y) (h1 : y < 16) : bits .or .i32 240 y = 240 + y := bits_join .i32 31 (by decide) wraps_i32 4 240 y (by decide) (by decide) (by decide) h0 h1 (by omega)

set_option maxHeartbeats 2000000 in
theorem put_neg (v : Value) (r : Int) (h1 : r < 0) (B : Nat) (bs : List UInt8) (w : World) (hB : B ≤ w.heap.size) (ho : Own w B 5 v (cB bs)) (hl : bs.length ≤ 1000000) :
    Calls Tryd.prog 19 #[v, .int .i32 r] w fun e w' => ∃ v', e = .returned v' ∧ Own w' B 5 v' (cB (bs ++ M.enc r)) ∧ Below B w w' := by
  have hcs : Lib.runeCells r = cB (M.enc r) := rune_cells r
  unfold Lib.runeCells at hcs
  rw [Lib.encodeRuneZ_bad (by omega)] at hcs
  have hen : (M.enc r).length = 3 := by rw [← cB_length, ← hcs]; rfl
  have HCS := hide hcs
  have HEN := hide hen
  clear hcs hen
  generalize M.enc r = es at *
  have e0 : decide (r < 0) = true := by simp; omega
  go_enter Tryd.func19, Tryd.ntmps19
  go_wp2_with (at_builtin; refine wpl_app8 rfl _ _ rfl B v bs (some ⟨w.heap.size, 0, none⟩) es 3 3 HEN.out.symm rfl rfl (ho.later ((Below.refl _ _).alloc (Nat.le_refl _) _)) (by simp; omega) (rd_new _ _ _ _ _ (by rw [← HCS.out]; rfl)) (fun e => by cases e) (by rw [HEN.out]; omega) ?_; intro v' w' ho' hb')
  go_ret
  exact ⟨_, rfl, ho', ((Below.refl _ _).alloc hB _).trans hb'⟩

set_option maxHeartbeats 2000000 in
theorem put_one (v : Value) (r : Int) (h0 : 0 ≤ r) (h1 : r ≤ 127) (B : Nat) (bs : List UInt8) (w : World) (hB : B ≤ w.heap.size) (ho : Own w B 5 v (cB bs)) (hl : bs.length ≤ 1000000) :
    Calls Tryd.prog 19 #[v, .int .i32 r] w fun e w' => ∃ v', e = .returned v' ∧ Own w' B 5 v' (cB (bs ++ M.enc r)) ∧ Below B w w' := by
  have hcs : Lib.runeCells r = cB (M.enc r) := rune_cells r
  unfold Lib.runeCells at hcs
  rw [Lib.encodeRuneZ_one h0 h1] at hcs
  have hen : (M.enc r).length = 1 := by rw [← cB_length, ← hcs]; rfl
  have HCS := hide hcs
  have HEN := hide hen
  clear hcs hen
  generalize M.enc r = es at *
  have e0 : decide (r < 0) = false := by simp; omega
  have e1 : decide (1114111 < r) = false := by simp; omega
  go_enter Tryd.func19, Tryd.ntmps19
  go_wp2_with (at_builtin; refine wpl_app8 rfl _ _ rfl B v bs (some ⟨w.heap.size, 0, none⟩) es 1 1 HEN.out.symm rfl rfl (ho.later ((Below.refl _ _).alloc (Nat.le_refl _) _)) (by simp; omega) (rd_new _ _ _ _ _ (by rw [← HCS.out]; rfl)) (fun e => by cases e) (by rw [HEN.out]; omega) ?_; intro v' w' ho' hb')
  go_ret
  exact ⟨_, rfl, ho', ((Below.refl _ _).alloc hB _).trans hb'⟩

set_option maxHeartbeats 2000000 in
theorem put_two (v : Value) (r : Int) (h0 : 128 ≤ r) (h1 : r ≤ 2047) (B : Nat) (bs : List UInt8) (w : World) (hB : B ≤ w.heap.size) (ho : Own w B 5 v (cB bs)) (hl : bs.length ≤ 1000000) :
    Calls Tryd.prog 19 #[v, .int .i32 r] w fun e w' => ∃ v', e = .returned v' ∧ Own w' B 5 v' (cB (bs ++ M.enc r)) ∧ Below B w w' := by
  have hcs : Lib.runeCells r = cB (M.enc r) := rune_cells r
  unfold Lib.runeCells at hcs
  rw [Lib.encodeRuneZ_two h0 h1] at hcs
  have hen : (M.enc r).length = 2 := by rw [← cB_length, ← hcs]; rfl
  have HCS := hide hcs
  have HEN := hide hen
  clear hcs hen
  generalize M.enc r = es at *
  have e0 : decide (r < 0) = false := by simp; omega
  have e1 : decide (1114111 < r) = false := by simp; omega
  have m0 := and63 r (by omega) (by omega)
  have m1 := or128 (r % 64) (by omega) (by omega)
  go_enter Tryd.func19, Tryd.ntmps19
  go_wp2_with (at_builtin; refine wpl_app8 rfl _ _ rfl B v bs (some ⟨w.heap.size, 0, none⟩) es 2 2 HEN.out.symm rfl rfl (ho.later ((Below.refl _ _).alloc (Nat.le_refl _) _)) (by simp; omega) (rd_new _ _ _ _ _ (by rw [← HCS.out]; rfl)) (fun e => by cases e) (by rw [HEN.out]; omega) ?_; intro v' w' ho' hb')
  go_ret
  exact ⟨_, rfl, ho', ((Below.refl _ _).alloc hB _).trans hb'⟩

set_option maxHeartbeats 2000000 in
theorem put_three (v : Value) (r : Int) (h0 : 2048 ≤ r) (h1 : r ≤ 55295) (B : Nat) (bs : List UInt8) (w : World) (hB : B ≤ w.heap.size) (ho : Own w B 5 v (cB bs)) (hl : bs.length ≤ 1000000) :
    Calls Tryd.prog 19 #[v, .int .i32 r] w fun e w' => ∃ v', e = .returned v' ∧ Own w' B 5 v' (cB (bs ++ M.enc r)) ∧ Below B w w' := by
  have hcs : Lib.runeCells r = cB (M.enc r) := rune_cells r
  unfold Lib.runeCells at hcs
  rw [Lib.encodeRuneZ_three (by omega)] at hcs
  have hen : (M.enc r).length = 3 := by rw [← cB_length, ← hcs]; rfl
  have HCS := hide hcs
  have HEN := hide hen
  clear hcs hen
  generalize M.enc r = es at *
  have e0 : decide (r < 0) = false := by simp; omega
  have e1 : decide (1114111 < r) = false := by simp; omega
  have m0 := and63 r (by omega) (by omega)
  have m1 := or128 (r % 64) (by omega) (by omega)
  have m2 := and63 (r / 64) (by omega) (by omega)
  have m3 := or128 (r / 64 % 64) (by omega) (by omega)
  have m6 := or224 (r / 4096) (by omega) (by omega)
  go_enter Tryd.func19, Tryd.ntmps19
  go_wp2_with (at_builtin; refine wpl_app8 rfl _ _ rfl B v bs (some ⟨w.heap.size, 0, none⟩) es 3 3 HEN.out.symm rfl rfl (ho.later ((Below.refl _ _).alloc (Nat.le_refl _) _)) (by simp; omega) (rd_new _ _ _ _ _ (by rw [← HCS.out]; rfl)) (fun e => by cases e) (by rw [HEN.out]; omega) ?_; intro v' w' ho' hb')
  go_ret
  exact ⟨_, rfl, ho', ((Below.refl _ _).alloc hB _).trans hb'⟩

set_option maxHeartbeats 2000000 in
theorem put_sur (v : Value) (r : Int) (h0 : 55296 ≤ r) (h1 : r ≤ 57343) (B : Nat) (bs : List UInt8) (w : World) (hB : B ≤ w.heap.size) (ho : Own w B 5 v (cB bs)) (hl : bs.length ≤ 1000000) :
    Calls Tryd.prog 19 #[v, .int .i32 r] w fun e w' => ∃ v', e = .returned v' ∧ Own w' B 5 v' (cB (bs ++ M.enc r)) ∧ Below B w w' := by
  have hcs : Lib.runeCells r = cB (M.enc r) := rune_cells r
  unfold Lib.runeCells at hcs
  rw [Lib.encodeRuneZ_bad (by omega)] at hcs
  have hen : (M.enc r).length = 3 := by rw [← cB_length, ← hcs]; rfl
  have HCS := hide hcs
  have HEN := hide hen
  clear hcs hen
  generalize M.enc r = es at *
  have e0 : decide (r < 0) = false := by simp; omega
  have e1 : decide (1114111 < r) = false := by simp; omega
  go_enter Tryd.func19, Tryd.ntmps19
  go_wp2_with (at_builtin; refine wpl_app8 rfl _ _ rfl B v bs (some ⟨w.heap.size, 0, none⟩) es 3 3 HEN.out.symm rfl rfl (ho.later ((Below.refl _ _).alloc (Nat.le_refl _) _)) (by simp; omega) (rd_new _ _ _ _ _ (by rw [← HCS.out]; rfl)) (fun e => by cases e) (by rw [HEN.out]; omega) ?_; intro v' w' ho' hb')
  go_ret
  exact ⟨_, rfl, ho', ((Below.refl _ _).alloc hB _).trans hb'⟩

set_option maxHeartbeats 2000000 in
theorem put_hi (v : Value) (r : Int) (h0 : 57344 ≤ r) (h1 : r ≤ 65535) (B : Nat) (bs : List UInt8) (w : World) (hB : B ≤ w.heap.size) (ho : Own w B 5 v (cB bs)) (hl : bs.length ≤ 1000000) :
    Calls Tryd.prog 19 #[v, .int .i32 r] w fun e w' => ∃ v', e = .returned v' ∧ Own w' B 5 v' (cB (bs ++ M.enc r)) ∧ Below B w w' := by
  have hcs : Lib.runeCells r = cB (M.enc r) := rune_cells r
  unfold Lib.runeCells at hcs
  rw [Lib.encodeRuneZ_three (by omega)] at hcs
  have hen : (M.enc r).length = 3 := by rw [← cB_length, ← hcs]; rfl
  have HCS := hide hcs
  have HEN := hide hen
  clear hcs hen
  generalize M.enc r = es at *
  have e0 : decide (r < 0) = false := by simp; omega
  have e1 : decide (1114111 < r) = false := by simp; omega
  have m0 := and63 r (by omega) (by omega)
  have m1 := or128 (r % 64) (by omega) (by omega)
  have m2 := and63 (r / 64) (by omega) (by omega)
  have m3 := or128 (r / 64 % 64) (by omega) (by omega)
  have m6 := or224 (r / 4096) (by omega) (by omega)
  go_enter Tryd.func19, Tryd.ntmps19
  go_wp2_with (at_builtin; refine wpl_app8 rfl _ _ rfl B v bs (some ⟨w.heap.size, 0, none⟩) es 3 3 HEN.out.symm rfl rfl (ho.later ((Below.refl _ _).alloc (Nat.le_refl _) _)) (by simp; omega) (rd_new _ _ _ _ _ (by rw [← HCS.out]; rfl)) (fun e => by cases e) (by rw [HEN.out]; omega) ?_; intro v' w' ho' hb')
  go_ret
  exact ⟨_, rfl, ho', ((Below.refl _ _).alloc hB _).trans hb'⟩

set_option maxHeartbeats 2000000 in
theorem put_four (v : Value) (r : Int) (h0 : 65536 ≤ r) (h1 : r ≤ 1114111) (B : Nat) (bs : List UInt8) (w : World) (hB : B ≤ w.heap.size) (ho : Own w B 5 v (cB bs)) (hl : bs.length ≤ 1000000) :
    Calls Tryd.prog 19 #[v, .int .i32 r] w fun e w' => ∃ v', e = .returned v' ∧ Own w' B 5 v' (cB (bs ++ M.enc r)) ∧ Below B w w' := by
  have hcs : Lib.runeCells r = cB (M.enc r) := rune_cells r
  unfold Lib.runeCells at hcs
  rw [Lib.encodeRuneZ_four h0 h1] at hcs
  have hen : (M.enc r).length = 4 := by rw [← cB_length, ← hcs]; rfl
  have HCS := hide hcs
  have HEN := hide hen
  clear hcs hen
  generalize M.enc r = es at *
  have e0 : decide (r < 0) = false := by simp; omega
  have e1 : decide (1114111 < r) = false := by simp; omega
  have m0 := and63 r (by omega) (by omega)
  have m1 := or128 (r % 64) (by omega) (by omega)
  have m2 := and63 (r / 64) (by omega) (by omega)
  have m3 := or128 (r / 64 % 64) (by omega) (by omega)
  have m6 := or240 (r / 262144) (by omega) (by omega)
  have m4 := and63 (r / 4096) (by omega) (by omega)
  have m5 := or128 (r / 4096 % 64) (by omega) (by omega)
  go_enter Tryd.func19, Tryd.ntmps19
  go_wp2_with (at_builtin; refine wpl_app8 rfl _ _ rfl B v bs (some ⟨w.heap.size, 0, none⟩) es 4 4 HEN.out.symm rfl rfl (ho.later ((Below.refl _ _).alloc (Nat.le_refl _) _)) (by simp; omega) (rd_new _ _ _ _ _ (by rw [← HCS.out]; rfl)) (fun e => by cases e) (by rw [HEN.out]; omega) ?_; intro v' w' ho' hb')
  go_ret
  exact ⟨_, rfl, ho', ((Below.refl _ _).alloc hB _).trans hb'⟩

set_option maxHeartbeats 2000000 in
theorem put_far (v : Value) (r : Int) (h1 : 1114112 ≤ r) (B : Nat) (bs : List UInt8) (w : World) (hB : B ≤ w.heap.size) (ho : Own w B 5 v (cB bs)) (hl : bs.length ≤ 1000000) :
    Calls Tryd.prog 19 #[v, .int .i32 r] w fun e w' => ∃ v', e = .returned v' ∧ Own w' B 5 v' (cB (bs ++ M.enc r)) ∧ Below B w w' := by
  have hcs : Lib.runeCells r = cB (M.enc r) := rune_cells r
  unfold Lib.runeCells at hcs
  rw [Lib.encodeRuneZ_bad (by omega)] at hcs
  have hen : (M.enc r).length = 3 := by rw [← cB_length, ← hcs]; rfl
  have HCS := hide hcs
  have HEN := hide hen
  clear hcs hen
  generalize M.enc r = es at *
  have e0 : decide (r < 0) = false := by simp; omega
  have e1 : decide (1114111 < r) = true := by simp; omega
  go_enter Tryd.func19, Tryd.ntmps19
  go_wp2_with (at_builtin; refine wpl_app8 rfl _ _ rfl B v bs (some ⟨w.heap.size, 0, none⟩) es 3 3 HEN.out.symm rfl rfl (ho.later ((Below.refl _ _).alloc (Nat.le_refl _) _)) (by simp; omega) (rd_new _ _ _ _ _ (by rw [← HCS.out]; rfl)) (fun e => by cases e) (by rw [HEN.out]; omega) ?_; intro v' w' ho' hb')
  go_ret
  exact ⟨_, rfl, ho', ((Below.refl _ _).alloc hB _).trans hb'⟩


theorem put_any (v : Value) (r : Int) (B : Nat) (bs : List UInt8) (w : World) (hB : B ≤ w.heap.size) (ho : Own w B 5 v (cB bs)) (hl : bs.length ≤ 1000000) :
    Calls Tryd.prog 19 #[v, .int .i32 r] w fun e w' => ∃ v', e = .returned v' ∧ Own w' B 5 v' (cB (bs ++ M.enc r)) ∧ Below B w w' := by
  by_cases h0 : r < 0
  · exact put_neg v r h0 B bs w hB ho hl
  by_cases h1 : r ≤ 127
  · exact put_one v r (by omega) h1 B bs w hB ho hl
  by_cases h2 : r ≤ 2047
  · exact put_two v r (by omega) h2 B bs w hB ho hl
  by_cases h3 : r ≤ 55295
  · exact put_three v r (by omega) h3 B bs w hB ho hl
  by_cases h4 : r ≤ 57343
  · exact put_sur v r (by omega) h4 B bs w hB ho hl
  by_cases h5 : r ≤ 65535
  · exact put_hi v r (by omega) h5 B bs w hB ho hl
  by_cases h6 : r ≤ 1114111
  · exact put_four v r (by omega) h6 B bs w hB ho hl
  · exact put_far v r (by omega) B bs w hB ho hl

set_option maxHeartbeats 1000000 in
theorem refBytes_any (ao : Option Addr) (cap : Nat) (xs : List Int) (hl : xs.length ≤ 10000) (w : World) (hc : Rd w ao (cI xs)) :
    Calls Tryd.prog 15 #[.slice ao xs.length cap] w fun e w' => ∃ v, e = .returned v ∧ Own w' w.heap.size 5 v (cB (M.encs xs)) ∧ Below w.heap.size w w' := by
  go_enter Tryd.func15, Tryd.ntmps15
  go_wp2
  go_loopw [3, 4] (fun v i wr => ∃ k : Nat, k ≤ xs.length ∧ i = .int .i64 (k : Int) ∧ Own wr w.heap.size 5 v (cB (M.encs (xs.take k))) ∧ Below w.heap.size w wr) (fun _ i _ => xs.length - (intOf i).toNat)
  case atStart => exact ⟨0, Nat.zero_le _, rfl, own_nil _ _ _, Below.refl _ _⟩
  case round =>
    obtain ⟨k, hk, rfl, ho, hb⟩ := hrel
    by_cases hlt : k < xs.length
    · obtain ⟨b, off, rfl, hcell⟩ := (hc.later hb).rune k hlt
      have hel := M.encs_length (xs.take k)
      rw [List.length_take] at hel
      have HE : Hid (M.encs (xs.take (k + 1)) = M.encs (xs.take k) ++ M.enc xs[k]) := encs_take xs k hlt
      generalize xs[k] = y at *
      generalize M.encs (xs.take k) = bs at *
      go_wp2_with fail
      refine (put_any _ y w.heap.size bs wr hb.size ho (by omega)).mono ?_
      rintro e w2 ⟨v', rfl, ho2, hb2⟩
      go_wp2
      go_roundw
      case rel => exact ⟨k + 1, by omega, by go_num, by rw [HE.out]; exact ho2, hb.trans hb2⟩
      case measure => simp [intOf]; omega
    · have HE : Hid (xs.take k = xs) := List.take_of_length_le (by omega)
      rw [HE.out] at ho
      go_wp2
      go_ret
      exact ⟨_, rfl, ho, hb⟩
end Go.Proofs.YtncmepcgafimjaaDoor
