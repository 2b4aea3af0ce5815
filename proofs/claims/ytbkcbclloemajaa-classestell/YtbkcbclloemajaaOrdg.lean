/- slices.Sort of a row of 32-bit numbers of the call's own. -/
import Derived.Test.YtbkcbclloemajaaOrdf
namespace Go.Proofs.Ytbkcbclloemajaa
open Go.RowKit

/-- The value v owns a row of numbers that the call itself made, from block B on. -/
def OwnI (w : World) (B : Nat) (v : Value) (zs : List Int) : Prop := w.ownsRow B 21 1 v zs.length (zs.map (Value.int .i32))

set_option maxRecDepth 100000 in
set_option maxHeartbeats 4000000 in
theorem ins0_any (ao : Option Addr) (cap : Nat) (W : World) : Calls Try.prog 66 #[.slice ao 0 cap, .int .i64 0, .int .i64 0] W fun e W' => e = .returned (.tuple #[]) ∧ W' = W := by
  go_enter Try.func66, Try.ntmps66
  go_wp2
  go_loopw [6] (fun v wr => v = .int .i64 1 ∧ wr = W) (fun _ _ => 0)
  case atStart => exact ⟨rfl, rfl⟩
  case round =>
    obtain ⟨rfl, rfl⟩ := hrel
    go_wp2
    go_end0
    exact ⟨rfl, rfl⟩
set_option maxRecDepth 100000 in
set_option maxHeartbeats 4000000 in
theorem pdq0_any (ao : Option Addr) (cap : Nat) (l : Int) (W : World) : Calls Try.prog 62 #[.slice ao 0 cap, .int .i64 0, .int .i64 0, .int .i64 l] W fun e W' => e = .returned (.tuple #[]) ∧ W' = W := by
  have hc := ins0_any ao cap W
  go_enter Try.func62, Try.ntmps62
  go_wp2
  go_loopg [1, 2, 3, 8, 9] 1 (fun _ s1 s2 _ _ _ wr => s1 = .int .i64 0 ∧ s2 = .int .i64 0 ∧ wr = W)
  case atStart => exact ⟨rfl, rfl, rfl⟩
  case round =>
    obtain ⟨rfl, rfl, rfl⟩ := hrel
    go_wp2_with fail
    refine hc.mono ?_
    rintro e w1 ⟨rfl, rfl⟩
    go_wp2
    (try simp only [Exit.inBlock, Exit.then])
    refine bodyPost_ret (results_none rfl _ _ _) rfl ?_
    exact ⟨rfl, rfl⟩
theorem len_any (n : Nat) (hn : n ≤ 1000000) (W : World) : Calls Try.prog 63 #[.int .u64 (n : Int)] W fun e W' => ∃ l : Nat, l ≤ 100 ∧ e = .returned (.int .i64 (l : Int)) ∧ W' = W := by
  have h := Any.bits_Len (P := Try.prog) (ρ := sortIv_ren.viaSlsf) (SlLaysF0.n15.bits (P := Try.prog) (ρ := sortIv_ren) { sortIv with }) (n : Int) W (by omega) (by omega)
  change Calls Try.prog 63 _ _ _ at h
  refine h.mono ?_
  rintro e w' ⟨rfl, rfl⟩
  refine ⟨_, ?_, rfl, rfl⟩
  have := Lib.bitLen_le (n : Int).toNat 62 (by omega) (by omega)
  omega

theorem list_get (zs : List Int) (j : Nat) (h : j < zs.length) : zs.toArray[j]! = zs[j] := by
  rw [getElem!_pos zs.toArray j (by simpa using h)]
  simp
/-- The row of the call's own, seen as the sort sees it, and back. -/
theorem OwnI.rw {w : World} {B g cap : Nat} {zs : List Int} (h : OwnI w B (.slice (some ⟨g, 0, none⟩) zs.length cap) zs) : Rw w g 0 zs.toArray w := by
  obtain ⟨_, ⟨e, _⟩ | ⟨g', cap', cur, e, _, hgb, hle, _, hsz, htk⟩⟩ := h
  · cases e
  cases e
  have hc : ∀ j (hj : j < zs.length), cur[j]? = some (.int .i32 zs[j]) := by
    intro j hj
    have h1 : (cur.toList.take (zs.length * 1))[j]? = (zs.map (Value.int .i32))[j]? := by rw [htk]
    rw [List.getElem?_take, if_pos (by omega)] at h1
    simpa [hj] using h1
  refine Rw.start hgb (fun j hj => ?_) (fun j hj => by simp [World.frozen?, hgb])
  have hj' : j < zs.length := by simpa using hj
  rw [list_get zs j hj']
  simp [World.cell?, hgb, hc j hj']
theorem Rw.own {w W : World} {B g cap : Nat} {zs : List Int} {R : Array Int} (h : OwnI w B (.slice (some ⟨g, 0, none⟩) zs.length cap) zs) (hr : Rw w g 0 R W) (hs : R.size = zs.length) : OwnI W B (.slice (some ⟨g, 0, none⟩) zs.length cap) R.toList := by
  obtain ⟨h1, ⟨e, _⟩ | ⟨g', cap', cur, e, hB, hgb, hle, hm, hsz, htk⟩⟩ := h
  · cases e
  cases e
  obtain ⟨c0, c, t, fr, h2, h3, h4⟩ := hr.rest
  rw [hgb] at h2
  cases h2
  have hl : R.toList.length = zs.length := by simpa using hs
  refine ⟨by simp, .inr ⟨g, cap, c, by rw [hl], hB, h3, by rw [hl]; exact hle, hm, by rw [h4]; exact hsz, ?_⟩⟩
  apply List.ext_getElem?
  intro j
  rw [List.getElem?_take]
  by_cases hj : j < R.toList.length
  · rw [if_pos (by omega)]
    have hj' : j < R.size := by simpa using hj
    have := hr.cell j hj'
    simp [World.cell?, h3] at this
    rw [Array.getElem?_toList, this]
    simp [hj']
  · rw [if_neg (by omega)]
    have hj2 : R.size ≤ j := by simpa using hj
    exact (List.getElem?_eq_none (by simpa using hj2)).symm
theorem grown_under {w W : World} {g B : Nat} (h : w.grownBy W (some g)) (hB : B ≤ g) (hw : B ≤ w.heap.size) : RowKit.Below B w W := ⟨h.os, h.tape, h.output, h.size, fun k hk => h.block k (by omega) (fun e => by cases e; omega)⟩

set_option maxRecDepth 100000 in
set_option maxHeartbeats 4000000 in
/-- slices.Sort of a row of the call's own. -/
theorem sort_any (u : Value) (zs : List Int) (hl : zs.length ≤ 1000000) (B : Nat) (w : World) (h : OwnI w B u zs) (hB : B ≤ w.heap.size) :
    Calls Try.prog 56 #[u] w fun e W' => e = .returned (.tuple #[]) ∧ ∃ ys : List Int, OwnI W' B u ys ∧ ys.Perm zs ∧ ys.Pairwise (· ≤ ·) ∧ RowKit.Below B w W' := by
  have hlen := len_any zs.length hl
  have hwrap : IntKind.u64.wrap (zs.length : Int) = (zs.length : Int) := by simp [IntKind.wrap, IntKind.bits, IntKind.signed]; omega
  rcases h' : h.2 with ⟨rfl, hn⟩ | ⟨g, cap, cur, rfl, hBg, hgb, _⟩
  · have hz : zs = [] := List.eq_nil_of_length_eq_zero hn
    subst hz
    go_enter Try.func56, Try.ntmps56
    go_wp2_with fail
    refine (hlen _).mono ?_
    rintro e w1 ⟨l, hl1, rfl, hw1⟩
    subst hw1
    have hc := pdq0_any none 0 l w1
    go_wp2_with fail
    refine hc.mono ?_
    rintro e w1 ⟨rfl, rfl⟩
    go_wp2
    go_end0
    exact ⟨rfl, [], h, .refl _, List.Pairwise.nil, RowKit.Below.refl _ _⟩
  · have hr := OwnI.rw h
    have HO := hid h
    clear h h'
    generalize hN : zs.length = N at hlen hwrap hl ⊢
    go_enter Try.func56, Try.ntmps56
    go_wp2_with fail
    refine (hlen _).mono ?_
    rintro e w1 ⟨l, hl1, rfl, hw1⟩
    subst hw1
    have hc := pdq_any w1 g 0 cap N hl N zs.toArray 0 N l w1 (by omega) hr (by simpa using hN) (Nat.zero_le _) (Nat.le_refl _) hl1 (.inl rfl)
    go_wp2_with fail
    refine hc.mono ?_
    rintro e w1 ⟨rfl, R, hr1, hp, hs⟩
    go_wp2
    go_end0
    have hRs : R.size = zs.length := by have := hp.1; simpa using this
    refine ⟨rfl, R.toList, ?_, ?_, ?_, grown_under hr1.grown hBg hB⟩
    · have := Rw.own HO.out hr1 hRs
      rw [hN] at this
      exact this
    · have h2 := hp.2.2
      rw [show N = R.size by omega, Array.extract_size] at h2
      rw [hRs, show zs.length = zs.toArray.size by simp, Array.extract_size] at h2
      exact h2
    · rw [List.pairwise_iff_getElem]
      intro i j hi hj hij
      have := hs i j (Nat.zero_le _) hij (by simp at hj; omega)
      rw [getElem!_pos R j (by simpa using hj), getElem!_pos R i (by simpa using hi)] at this
      simp [Sort.ltInt] at this
      simpa using this
end Go.Proofs.Ytbkcbclloemajaa
