/- The library's sort of numbers of 32 bits: choosing the pivot, breaking patterns. -/
import Derived.Shelf.SlSortCmp.Xorshift
import Derived.RangeFuncBox
import Derived.Test.YtbkcbclloemajaaOrdb
import Derived.Test.YtbkcbclloemajaaShelf
namespace Go.Proofs.Ytbkcbclloemajaa
open Go.RowKit

/-- A box of the call's own beside the row. -/
theorem Rw.box {w0 : World} {b off : Nat} {d : Array Int} {W : World} (h : Rw w0 b off d W) {p : Nat} (hp : w0.heap.size ≤ p) (v : Value) : Rw w0 b off d (W.setCell ⟨p, 0, none⟩ v) :=
  h.later ((RowKit.Below.refl _ W).setCell (p := ⟨p, 0, none⟩) hp v)

theorem boxed_beside {W : World} {B : Nat} {t : TypeId} {v : Value} (h : Boxed W B t v) {b p : Nat} (hb : b ≠ B) (u : Value) : Boxed (W.setCell ⟨b, p, none⟩ u) B t v := by
  unfold Boxed
  rw [Sort.setCell_eq]
  simp only [Sort.mapBlock, Array.getElem?_modify, hb, if_false]
  exact h

set_option maxRecDepth 100000 in
set_option maxHeartbeats 4000000 in
theorem order2_any (w0 : World) (b off cap : Nat) (d : Array Int) (i j p s : Nat) (W : World) (h : Rw w0 b off d W) (hi : i < d.size) (hj : j < d.size) (hp : w0.heap.size ≤ p) (hx : Boxed W p 3 (.int .i64 s)) (hs1 : s ≤ 100) :
    Calls Try.prog 93 #[.slice (some ⟨b, off, none⟩) d.size cap, .int .i64 i, .int .i64 j, .pointer (some ⟨p, 0, none⟩)] W fun e W' => ∃ (x y s' : Nat), e = .returned (.tuple #[.int .i64 x, .int .i64 y]) ∧ ((x = i ∧ y = j) ∨ (x = j ∧ y = i)) ∧ s' ≤ s + 1 ∧ Boxed W' p 3 (.int .i64 s') ∧ Rw w0 b off d W' := by
  generalize hN : d.size = N at hi hj ⊢
  obtain ⟨G, HG, hc, hf⟩ := h.fam hN
  go_enter Try.func93, Try.ntmps93
  go_wp2_with fail
  go_big_quiet (first | (go_at_call 72; refine Calls.quiet_of_same (less_any _ _ _)))
  replace h := h.draw nq
  replace hx : Boxed (W.drewN nq) p 3 (.int .i64 s) := hx
  generalize W.drewN nq = wq at *
  have hcx := hx.cell
  have hfx := hx.frozen
  clear hc hf HG
  go_wp2
  · go_ret2
    exact ⟨j, i, s + 1, rfl, .inr ⟨rfl, rfl⟩, Nat.le_refl _, by have := hx.set (.int .i64 ((s : Int) + 1)); simpa using this, h.box hp _⟩
  · go_ret2
    exact ⟨i, j, s, rfl, .inl ⟨rfl, rfl⟩, by omega, hx, h⟩

set_option maxRecDepth 100000 in
set_option maxHeartbeats 4000000 in
theorem median_any (w0 : World) (b off cap : Nat) (d : Array Int) (i j k p s : Nat) (W : World) (h : Rw w0 b off d W) (hi : i < d.size) (hj : j < d.size) (hk : k < d.size) (hp : w0.heap.size ≤ p) (hx : Boxed W p 3 (.int .i64 s)) (hs1 : s ≤ 90) :
    Calls Try.prog 89 #[.slice (some ⟨b, off, none⟩) d.size cap, .int .i64 i, .int .i64 j, .int .i64 k, .pointer (some ⟨p, 0, none⟩)] W fun e W' => ∃ (x s' : Nat), e = .returned (.int .i64 x) ∧ (x = i ∨ x = j ∨ x = k) ∧ s' ≤ s + 3 ∧ Boxed W' p 3 (.int .i64 s') ∧ Rw w0 b off d W' := by
  go_enter Try.func89, Try.ntmps89
  go_wp2_with fail
  refine (order2_any w0 b off cap d i j p s W h hi hj hp hx (by omega)).mono ?_
  rintro e w1 ⟨x1, y1, s1, rfl, h1, hs2, hx1, hr1⟩
  go_wp2_with fail
  refine (order2_any w0 b off cap d y1 k p s1 w1 hr1 (by omega) hk hp hx1 (by omega)).mono ?_
  rintro e w2 ⟨x2, y2, s2, rfl, h2, hs3, hx2, hr2⟩
  go_wp2_with fail
  refine (order2_any w0 b off cap d x1 x2 p s2 w2 hr2 (by omega) (by omega) hp hx2 (by omega)).mono ?_
  rintro e w3 ⟨x3, y3, s3, rfl, h3, hs4, hx3, hr3⟩
  go_wp2
  go_ret
  exact ⟨y3, s3, rfl, by omega, by omega, hx3, hr3⟩

set_option maxRecDepth 100000 in
set_option maxHeartbeats 4000000 in
theorem medianAdj_any (w0 : World) (b off cap : Nat) (d : Array Int) (i p s : Nat) (W : World) (h : Rw w0 b off d W) (h0 : 0 < i) (hi : i + 1 < d.size) (hs : d.size ≤ 1000000) (hp : w0.heap.size ≤ p) (hx : Boxed W p 3 (.int .i64 s)) (hs1 : s ≤ 90) :
    Calls Try.prog 88 #[.slice (some ⟨b, off, none⟩) d.size cap, .int .i64 i, .pointer (some ⟨p, 0, none⟩)] W fun e W' => ∃ (x s' : Nat), e = .returned (.int .i64 x) ∧ (x + 1 = i ∨ x = i ∨ x = i + 1) ∧ s' ≤ s + 3 ∧ Boxed W' p 3 (.int .i64 s') ∧ Rw w0 b off d W' := by
  have hm := median_any w0 b off cap d (i - 1) i (i + 1) p s W h (by omega) (by omega) hi hp hx hs1
  rw [show (((i - 1 : Nat) : Int)) = (i : Int) - 1 by omega, show (((i + 1 : Nat) : Int)) = (i : Int) + 1 by omega] at hm
  go_enter Try.func88, Try.ntmps88
  go_wp2_with fail
  refine hm.mono ?_
  rintro e w1 ⟨x1, s1, rfl, h1, hs2, hx1, hr1⟩
  clear hm
  go_wp2
  go_ret
  exact ⟨x1, s1, rfl, by omega, hs2, hx1, hr1⟩

set_option maxRecDepth 100000 in
set_option maxHeartbeats 4000000 in
theorem pivot_any (w0 : World) (b off cap : Nat) (d : Array Int) (i0 j0 : Nat) (W : World) (h : Rw w0 b off d W) (hij : i0 + 12 < j0) (hj : j0 ≤ d.size) (hs : d.size ≤ 1000000) :
    Calls Try.prog 69 #[.slice (some ⟨b, off, none⟩) d.size cap, .int .i64 i0, .int .i64 j0] W fun e W' => ∃ (x : Nat) (t : Int), e = .returned (.tuple #[.int .i64 x, .int .i64 t]) ∧ i0 ≤ x ∧ x < j0 ∧ (t = 0 ∨ t = 1 ∨ t = 2) ∧ Rw w0 b off d W' := by
  obtain ⟨L, hL⟩ : ∃ L : Nat, (j0 : Int) - (i0 : Int) = (L : Int) := ⟨j0 - i0, by omega⟩
  have hL1 : i0 + L = j0 := by omega
  obtain ⟨q, hq⟩ : ∃ q : Nat, q = L / 4 := ⟨_, rfl⟩
  have hqz : (L : Int).tdiv 4 = (q : Int) := by rw [Int.tdiv_eq_ediv_of_nonneg (by omega)]; omega
  have hqz2 : (L : Int) / 4 = (q : Int) := by omega
  have hq1 : 3 ≤ q := by omega
  have hq2 : i0 + 4 * q ≤ j0 := by omega
  clear hq
  have hsz := h.grown.size
  have h1 := h.alloc (.cells #[.int .i64 0] 3)
  have hx1 : Boxed (W.alloc (.cells #[.int .i64 0] 3)) W.heap.size 3 (.int .i64 ((0 : Nat) : Int)) := Boxed.new W 3 (.int .i64 0)
  have h8 : (8 : Int) ≤ (L : Int) := by omega
  by_cases h50 : 50 ≤ L
  · have h50z : (50 : Int) ≤ (L : Int) := by omega
    have m1 := medianAdj_any w0 b off cap d (i0 + q) W.heap.size 0 _ h1 (by omega) (by omega) hs hsz hx1 (by omega)
    rw [show (((i0 + q : Nat) : Int)) = (i0 : Int) + (q : Int) by omega] at m1
    go_enter Try.func69, Try.ntmps69
    go_wp2_with fail
    refine m1.mono ?_
    rintro e w1 ⟨x1, s1, rfl, g1, gs1, hx1, hr1⟩
    clear m1
    have m2 := medianAdj_any w0 b off cap d (i0 + q * 2) W.heap.size s1 _ hr1 (by omega) (by omega) hs hsz hx1 (by omega)
    rw [show (((i0 + q * 2 : Nat) : Int)) = (i0 : Int) + (q : Int) * 2 by omega] at m2
    go_wp2_with fail
    refine m2.mono ?_
    rintro e w2 ⟨x2, s2, rfl, g2, gs2, hx2, hr2⟩
    clear m2
    have m3 := medianAdj_any w0 b off cap d (i0 + q * 3) W.heap.size s2 _ hr2 (by omega) (by omega) hs hsz hx2 (by omega)
    rw [show (((i0 + q * 3 : Nat) : Int)) = (i0 : Int) + (q : Int) * 3 by omega] at m3
    go_wp2_with fail
    refine m3.mono ?_
    rintro e w3 ⟨x3, s3, rfl, g3, gs3, hx3, hr3⟩
    clear m3
    have m4 := median_any w0 b off cap d x1 x2 x3 W.heap.size s3 _ hr3 (by omega) (by omega) (by omega) hsz hx3 (by omega)
    go_wp2_with fail
    refine m4.mono ?_
    rintro e w4 ⟨x4, s4, rfl, g4, gs4, hx4, hr4⟩
    clear m4
    have hc := hx4.cell
    go_wp2
    all_goals
      go_ret2
      exact ⟨x4, _, rfl, by omega, by omega, by omega, hr4⟩
  · have h50z : ¬ ((50 : Int) ≤ (L : Int)) := by omega
    have m4 := median_any w0 b off cap d (i0 + q) (i0 + q * 2) (i0 + q * 3) W.heap.size 0 _ h1 (by omega) (by omega) (by omega) hsz hx1 (by omega)
    rw [show (((i0 + q : Nat) : Int)) = (i0 : Int) + (q : Int) by omega, show (((i0 + q * 2 : Nat) : Int)) = (i0 : Int) + (q : Int) * 2 by omega, show (((i0 + q * 3 : Nat) : Int)) = (i0 : Int) + (q : Int) * 3 by omega] at m4
    go_enter Try.func69, Try.ntmps69
    go_wp2_with fail
    refine m4.mono ?_
    rintro e w4 ⟨x4, s4, rfl, g4, gs4, hx4, hr4⟩
    clear m4
    have hc := hx4.cell
    go_wp2
    all_goals
      go_ret2
      exact ⟨x4, _, rfl, by omega, by omega, by omega, hr4⟩

theorem next_any (p X : Nat) (hX : X < 18446744073709551616) (w : World) (hx : Boxed w p 127 (.int .u64 X)) :
    Calls Try.prog 87 #[.pointer (some ⟨p, 0, none⟩)] w fun e w' => ∃ Y : Nat, Y < 18446744073709551616 ∧ e = .returned (.int .u64 (Y : Int)) ∧ w' = (w.setCell ⟨p, 0, none⟩ (.int .u64 (Y : Int))).drewN 3 := by
  have h := AnyF.xorshift_Next (P := Try.prog) (ρ := sortIv_ren) { sortIv with } p 0 X hX w hx.cell hx.frozen
  change Calls Try.prog 87 _ _ _ at h
  refine h.mono ?_
  rintro e w' ⟨rfl, rfl⟩
  exact ⟨_, Sort.xorNextN_lt X hX, rfl, rfl⟩
theorem pow_any (n : Nat) (hn : n ≤ 1000000) (hn0 : 0 < n) (w : World) :
    Calls Try.prog 86 #[.int .i64 n] w fun e w' => ∃ M : Nat, 1 ≤ M ∧ M ≤ 2 * n ∧ e = .returned (.int .u64 (M : Int)) ∧ w' = w := by
  have h := AnyF.nextPowerOfTwo (P := Try.prog) (ρ := sortIv_ren) { sortIv with } n (by omega) w
  change Calls Try.prog 86 _ _ _ at h
  refine h.mono ?_
  rintro e w' ⟨rfl, rfl⟩
  exact ⟨_, by rw [Nat.one_shiftLeft]; exact Nat.two_pow_pos _, by rw [Nat.one_shiftLeft]; exact Sort.two_pow_bitsLen_le hn0, rfl, rfl⟩

set_option maxRecDepth 100000 in
set_option maxHeartbeats 8000000 in
theorem brk_any (w0 : World) (b off cap : Nat) (d : Array Int) (i0 j0 : Nat) (W : World) (h : Rw w0 b off d W) (hij : i0 + 12 < j0) (hj : j0 ≤ d.size) (hs : d.size ≤ 1000000) :
    Calls Try.prog 68 #[.slice (some ⟨b, off, none⟩) d.size cap, .int .i64 i0, .int .i64 j0] W fun e W' => e = .returned (.tuple #[]) ∧ ∃ d', Rw w0 b off d' W' ∧ Sort.PermIn i0 j0 d d' := by
  generalize hN : d.size = N at hj hs ⊢
  obtain ⟨L, hL⟩ : ∃ L : Nat, (j0 : Int) - (i0 : Int) = (L : Int) := ⟨j0 - i0, by omega⟩
  have hL1 : i0 + L = j0 := by omega
  have hL8 : (8 : Int) ≤ (L : Int) := by omega
  obtain ⟨q, hq⟩ : ∃ q : Nat, q = L / 4 := ⟨_, rfl⟩
  have hqz : (L : Int).tdiv 4 = (q : Int) := by rw [Int.tdiv_eq_ediv_of_nonneg (by omega)]; omega
  have hqz2 : (L : Int) / 4 = (q : Int) := by omega
  have hq1 : 3 ≤ q := by omega
  have hq2 : i0 + 4 * q ≤ j0 := by omega
  have hwr : IntKind.u64.wrap (L : Int) = (L : Int) := by simp [IntKind.wrap, IntKind.bits, IntKind.signed]; omega
  have hsz := h.grown.size
  have h1 := h.alloc (.cells #[.int .u64 (L : Int)] 127)
  have hx1 : Boxed (W.alloc (.cells #[.int .u64 (L : Int)] 127)) W.heap.size 127 (.int .u64 (L : Int)) := Boxed.new W 127 _
  have hpow := pow_any L (by omega) (by omega)
  clear hq
  go_enter Try.func68, Try.ntmps68
  go_wp2_with fail
  refine (hpow _).mono ?_
  rintro e w' ⟨M, hM1, hM2, rfl, rfl⟩
  clear hpow
  generalize W.alloc (.cells #[.int .u64 (L : Int)] 127) = w1 at *
  obtain ⟨c, hcz⟩ : ∃ c : Nat, (i0 : Int) + (q : Int) * 2 - 1 = (c : Int) := ⟨i0 + q * 2 - 1, by omega⟩
  have hc1 : c + 1 = i0 + q * 2 := by omega
  go_wp2
  go_loopw [9] (fun v wr => ∃ (k X : Nat) (dk : Array Int), v = .int .i64 (k : Int) ∧ c ≤ k ∧ k ≤ c + 3 ∧ X < 18446744073709551616 ∧ Boxed wr W.heap.size 127 (.int .u64 (X : Int)) ∧ Hid (dk.size = N) ∧ Rw w0 b off dk wr ∧ Hid (Sort.PermIn i0 j0 d dk)) (fun v _ => (c + 3 - (intOf v).toNat))
  case atStart => exact ⟨c, L, d, by rw [← hcz], Nat.le_refl _, by omega, by omega, hx1, hid hN, h1, hid (Sort.permIn_refl _ _ _)⟩
  case round =>
    obtain ⟨k, X, dk, rfl, hk1, hk2, hX, hx, hk, hr, HP⟩ := hrel
    clear hx1 h1 h
    have hbne : b ≠ W.heap.size := by have := hr.lt; omega
    by_cases hk3 : k ≤ c + 2
    · have hkz : (k : Int) ≤ (i0 : Int) + (q : Int) * 2 + 1 := by omega
      have hnext := next_any W.heap.size X hX wr hx
      clear hcz
      go_wp2_with fail
      refine hnext.mono ?_
      rintro e w2 ⟨Y, hY, rfl, rfl⟩
      clear hnext
      replace hr := (hr.box hsz (.int .u64 (Y : Int))).draw 3
      have hxz : Boxed ((wr.setCell ⟨W.heap.size, 0, none⟩ (.int .u64 (Y : Int))).drewN 3) W.heap.size 127 (.int .u64 (Y : Int)) := hx.set _
      generalize (wr.setCell ⟨W.heap.size, 0, none⟩ (.int .u64 (Y : Int))).drewN 3 = wz at *
      obtain ⟨O, hO⟩ : ∃ O : Nat, O = Y &&& (M - 1) := ⟨_, rfl⟩
      have lO : O ≤ M - 1 := by rw [hO]; exact Nat.and_le_right
      have eAnd : bits .and .u64 (Y : Int) ((M : Int) - 1) = (O : Int) := by
        rw [show ((M : Int) - 1) = ((M - 1 : Nat) : Int) by omega, bits_and_u64_nat _ _ hY (by omega), hO]
      obtain ⟨G, HG, hc, hf⟩ := hr.fam hk.out
      clear hO hx
      by_cases hLO : L ≤ O
      · have hLOz : (L : Int) ≤ (O : Int) := by omega
        obtain ⟨o, ho⟩ : ∃ o : Nat, (O : Int) - (L : Int) = (o : Int) := ⟨O - L, by omega⟩
        have hol : o < L := by omega

        obtain ⟨v', hy'⟩ := cell?_setCell_some (w := wz) (p := ⟨b, off + k, none⟩) (x := .int .i32 (G (i0 + o))) (q := ⟨b, off + (i0 + o), none⟩) (hc (i0 + o) (by omega))
        go_wp2_with fail
        go_region
        go_wp2
        go_roundw
        case rel => exact ⟨k + 1, Y, Sort.swp dk k (i0 + o), by go_num, by omega, by omega, hY, boxed_beside (boxed_beside hxz hbne _) hbne _, hid (by rw [Sort.size_swp]; exact hk.out), hr.swapAt k (i0 + o) (by rw [hk.out]; omega) (by rw [hk.out]; omega) (by omega) (by omega) (gat HG.out (by omega)) (gat HG.out (by omega)), hid (Sort.permIn_trans _ _ _ _ _ HP.out (Sort.swp_permIn _ _ _ _ _ (by omega) (by omega) (by omega) (by omega) (by rw [hk.out]; exact hj)))⟩
        case measure => simp [intOf]; omega

      · have hLOz : ¬ ((L : Int) ≤ (O : Int)) := by omega
        have hol : O < L := by omega

        obtain ⟨v', hy'⟩ := cell?_setCell_some (w := wz) (p := ⟨b, off + k, none⟩) (x := .int .i32 (G (i0 + O))) (q := ⟨b, off + (i0 + O), none⟩) (hc (i0 + O) (by omega))
        go_wp2_with fail
        go_region
        go_wp2
        go_roundw
        case rel => exact ⟨k + 1, Y, Sort.swp dk k (i0 + O), by go_num, by omega, by omega, hY, boxed_beside (boxed_beside hxz hbne _) hbne _, hid (by rw [Sort.size_swp]; exact hk.out), hr.swapAt k (i0 + O) (by rw [hk.out]; omega) (by rw [hk.out]; omega) (by omega) (by omega) (gat HG.out (by omega)) (gat HG.out (by omega)), hid (Sort.permIn_trans _ _ _ _ _ HP.out (Sort.swp_permIn _ _ _ _ _ (by omega) (by omega) (by omega) (by omega) (by rw [hk.out]; exact hj)))⟩
        case measure => simp [intOf]; omega

    · have hkz : ¬ ((k : Int) ≤ (i0 : Int) + (q : Int) * 2 + 1) := by omega
      go_wp2
      go_end0
      exact ⟨rfl, dk, hr, HP.out⟩
end Go.Proofs.Ytbkcbclloemajaa
