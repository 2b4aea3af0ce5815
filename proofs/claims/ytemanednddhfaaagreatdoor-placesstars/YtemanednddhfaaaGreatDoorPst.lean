/- PlacesStars: its families by the kernel, each. -/
import Derived.Test.YtemanednddhfaaaGreatDoorPlt
namespace Go.Proofs.YtemanednddhfaaaGreatDoor
open Go.RowKit Go.Shelf
open E (T isS)
namespace PA
def txR : Nat → List UInt8
  | 0 => [40]
  | i + 1 => txR i ++ [39, 97, 63]
def txS (plus : Bool) (k : Nat) : List UInt8 := if plus = true then ([40] ++ (txR k ++ [41, 42])) ++ [32, 39, 98, 41, 43] else txR k ++ [41, 42]
def ansS (plus : Bool) (k : Nat) (a : Au) : Bool :=
  if plus then !a.w.n && (decide (a.w.f = (2 ^ k - 1) ||| 2 ^ k) && (decide (a.w.l = 2 ^ k) && (decide (folI a 0 = (2 ^ k - 1) ||| 2 ^ k) && decide (folI a k = (2 ^ k - 1) ||| 2 ^ k))))
  else a.w.n && (decide (a.w.f = 2 ^ k - 1) && (decide (a.w.l = 2 ^ k - 1) && (decide (folI a 0 = 2 ^ k - 1) && decide (folI a (k - 1) = 2 ^ k - 1))))
noncomputable def chkS (plus : Bool) (k : Nat) : Bool :=
  lightC (txS plus k) && match E.parse (txS plus k) with
    | .ok t => treeC t && (decide (ct t ≤ 60) && ansS plus k (auto t))
    | .error _ => false
theorem cs1 : (chkS true 1 && chkS false 1) = true := by kernel_rfl
theorem cs2 : (chkS true 2 && chkS false 2) = true := by kernel_rfl
theorem cs3 : (chkS true 3 && chkS false 3) = true := by kernel_rfl
theorem cs4 : (chkS true 4 && chkS false 4) = true := by kernel_rfl
theorem cs5 : (chkS true 5 && chkS false 5) = true := by kernel_rfl
theorem cs6 : (chkS true 6 && chkS false 6) = true := by kernel_rfl
theorem cs7 : (chkS true 7 && chkS false 7) = true := by kernel_rfl
theorem cs8 : (chkS true 8 && chkS false 8) = true := by kernel_rfl
theorem cs9 : (chkS true 9 && chkS false 9) = true := by kernel_rfl
theorem cs10 : (chkS true 10 && chkS false 10) = true := by kernel_rfl
theorem cs11 : (chkS true 11 && chkS false 11) = true := by kernel_rfl
theorem cs12 : (chkS true 12 && chkS false 12) = true := by kernel_rfl
theorem cs13 : (chkS true 13 && chkS false 13) = true := by kernel_rfl
theorem cs14 : (chkS true 14 && chkS false 14) = true := by kernel_rfl
theorem cs15 : (chkS true 15 && chkS false 15) = true := by kernel_rfl
theorem cs16 : (chkS true 16 && chkS false 16) = true := by kernel_rfl
theorem cs17 : (chkS true 17 && chkS false 17) = true := by kernel_rfl
theorem cs18 : (chkS true 18 && chkS false 18) = true := by kernel_rfl
theorem cs19 : (chkS true 19 && chkS false 19) = true := by kernel_rfl
theorem cs20 : (chkS true 20 && chkS false 20) = true := by kernel_rfl
theorem cs_all : ∀ k, 1 ≤ k → k ≤ 20 → (chkS true k && chkS false k) = true
  | 0, h, _ => by omega
  | 1, _, _ => cs1
  | 2, _, _ => cs2
  | 3, _, _ => cs3
  | 4, _, _ => cs4
  | 5, _, _ => cs5
  | 6, _, _ => cs6
  | 7, _, _ => cs7
  | 8, _, _ => cs8
  | 9, _, _ => cs9
  | 10, _, _ => cs10
  | 11, _, _ => cs11
  | 12, _, _ => cs12
  | 13, _, _ => cs13
  | 14, _, _ => cs14
  | 15, _, _ => cs15
  | 16, _, _ => cs16
  | 17, _, _ => cs17
  | 18, _, _ => cs18
  | 19, _, _ => cs19
  | 20, _, _ => cs20
  | n + 21, _, h => by omega
theorem star_ok {k : Nat} (h1 : 1 ≤ k) (h2 : k ≤ 20) (plus : Bool) : lightC (txS plus k) = true ∧ ∃ t, E.parse (txS plus k) = .ok t ∧ treeC t = true ∧ ct t ≤ 60 ∧ ansS plus k (auto t) = true := by
  have h : chkS plus k = true := by
    have := cs_all k h1 h2
    rw [Bool.and_eq_true] at this
    cases plus
    · exact this.2
    · exact this.1
  unfold chkS at h
  rw [Bool.and_eq_true] at h
  refine ⟨h.1, ?_⟩
  have h := h.2
  split at h
  · rename_i t ht
    rw [Bool.and_eq_true, Bool.and_eq_true, decide_eq_true_eq] at h
    exact ⟨t, ht, h⟩
  · cases h
theorem ans_plus {k : Nat} {a : Au} (h : ansS true k a = true) : a.w.n = false ∧ a.w.f = (2 ^ k - 1) ||| 2 ^ k ∧ a.w.l = 2 ^ k ∧ folI a 0 = (2 ^ k - 1) ||| 2 ^ k ∧ folI a k = (2 ^ k - 1) ||| 2 ^ k := by
  unfold ansS at h
  simpa using h
theorem ans_star {k : Nat} {a : Au} (h : ansS false k a = true) : a.w.n = true ∧ a.w.f = 2 ^ k - 1 ∧ a.w.l = 2 ^ k - 1 ∧ folI a 0 = 2 ^ k - 1 ∧ folI a (k - 1) = 2 ^ k - 1 := by
  unfold ansS at h
  simpa using h
end PA
end Go.Proofs.YtemanednddhfaaaGreatDoor
