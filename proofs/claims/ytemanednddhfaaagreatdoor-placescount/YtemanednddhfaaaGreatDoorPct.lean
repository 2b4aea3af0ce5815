/- PlacesCount: its families by the kernel, each; the walk. -/
import Derived.Test.YtemanednddhfaaaGreatDoorPlt
namespace Go.Proofs.YtemanednddhfaaaGreatDoor
open Go.RowKit Go.Shelf
open E (T isS)
attribute [local go_sem] Oper.semAt_some
namespace PA
def txC (bar : Bool) : Nat → List UInt8
  | 0 => []
  | i + 1 => (if i ≠ 0 ∧ bar = true then txC bar i ++ [124] else txC bar i) ++ [39, 97]
def ansC (bar : Bool) (k : Nat) (a : Au) : Bool :=
  decide (a.pl.length = k) && (!a.w.n && (if bar then decide (a.w.f = 2 ^ k - 1) && (decide (a.w.l = 2 ^ k - 1) && decide (folI a 0 = 0)) else decide (a.w.f = 1) && (decide (a.w.l = 2 ^ (k - 1)) && (decide (k = 1) || decide (folI a 0 = 2)))))
noncomputable def chkC (bar : Bool) (k : Nat) : Bool :=
  lightC (txC bar k) && match E.parse (txC bar k) with
    | .ok t => treeC t && (if k ≤ 60 then decide (ct t ≤ 60) && ansC bar k (auto t) else decide (60 < ct t))
    | .error _ => false
theorem cc1 : (chkC true 1 && chkC false 1) = true := by kernel_rfl
theorem cc2 : (chkC true 2 && chkC false 2) = true := by kernel_rfl
theorem cc3 : (chkC true 3 && chkC false 3) = true := by kernel_rfl
theorem cc4 : (chkC true 4 && chkC false 4) = true := by kernel_rfl
theorem cc5 : (chkC true 5 && chkC false 5) = true := by kernel_rfl
theorem cc6 : (chkC true 6 && chkC false 6) = true := by kernel_rfl
theorem cc7 : (chkC true 7 && chkC false 7) = true := by kernel_rfl
theorem cc8 : (chkC true 8 && chkC false 8) = true := by kernel_rfl
theorem cc9 : (chkC true 9 && chkC false 9) = true := by kernel_rfl
theorem cc10 : (chkC true 10 && chkC false 10) = true := by kernel_rfl
theorem cc11 : (chkC true 11 && chkC false 11) = true := by kernel_rfl
theorem cc12 : (chkC true 12 && chkC false 12) = true := by kernel_rfl
theorem cc13 : (chkC true 13 && chkC false 13) = true := by kernel_rfl
theorem cc14 : (chkC true 14 && chkC false 14) = true := by kernel_rfl
theorem cc15 : (chkC true 15 && chkC false 15) = true := by kernel_rfl
theorem cc16 : (chkC true 16 && chkC false 16) = true := by kernel_rfl
theorem cc17 : (chkC true 17 && chkC false 17) = true := by kernel_rfl
theorem cc18 : (chkC true 18 && chkC false 18) = true := by kernel_rfl
theorem cc19 : (chkC true 19 && chkC false 19) = true := by kernel_rfl
theorem cc20 : (chkC true 20 && chkC false 20) = true := by kernel_rfl
theorem cc21 : (chkC true 21 && chkC false 21) = true := by kernel_rfl
theorem cc22 : (chkC true 22 && chkC false 22) = true := by kernel_rfl
theorem cc23 : (chkC true 23 && chkC false 23) = true := by kernel_rfl
theorem cc24 : (chkC true 24 && chkC false 24) = true := by kernel_rfl
theorem cc25 : (chkC true 25 && chkC false 25) = true := by kernel_rfl
theorem cc26 : (chkC true 26 && chkC false 26) = true := by kernel_rfl
theorem cc27 : (chkC true 27 && chkC false 27) = true := by kernel_rfl
theorem cc28 : (chkC true 28 && chkC false 28) = true := by kernel_rfl
theorem cc29 : (chkC true 29 && chkC false 29) = true := by kernel_rfl
theorem cc30 : (chkC true 30 && chkC false 30) = true := by kernel_rfl
theorem cc31 : (chkC true 31 && chkC false 31) = true := by kernel_rfl
theorem cc32 : (chkC true 32 && chkC false 32) = true := by kernel_rfl
theorem cc33 : (chkC true 33 && chkC false 33) = true := by kernel_rfl
theorem cc34 : (chkC true 34 && chkC false 34) = true := by kernel_rfl
theorem cc35 : (chkC true 35 && chkC false 35) = true := by kernel_rfl
theorem cc36 : (chkC true 36 && chkC false 36) = true := by kernel_rfl
theorem cc37 : (chkC true 37 && chkC false 37) = true := by kernel_rfl
theorem cc38 : (chkC true 38 && chkC false 38) = true := by kernel_rfl
theorem cc39 : (chkC true 39 && chkC false 39) = true := by kernel_rfl
theorem cc40 : (chkC true 40 && chkC false 40) = true := by kernel_rfl
theorem cc41 : (chkC true 41 && chkC false 41) = true := by kernel_rfl
theorem cc42 : (chkC true 42 && chkC false 42) = true := by kernel_rfl
theorem cc43 : (chkC true 43 && chkC false 43) = true := by kernel_rfl
theorem cc44 : (chkC true 44 && chkC false 44) = true := by kernel_rfl
theorem cc45 : (chkC true 45 && chkC false 45) = true := by kernel_rfl
theorem cc46 : (chkC true 46 && chkC false 46) = true := by kernel_rfl
theorem cc47 : (chkC true 47 && chkC false 47) = true := by kernel_rfl
theorem cc48 : (chkC true 48 && chkC false 48) = true := by kernel_rfl
theorem cc49 : (chkC true 49 && chkC false 49) = true := by kernel_rfl
theorem cc50 : (chkC true 50 && chkC false 50) = true := by kernel_rfl
theorem cc51 : (chkC true 51 && chkC false 51) = true := by kernel_rfl
theorem cc52 : (chkC true 52 && chkC false 52) = true := by kernel_rfl
theorem cc53 : (chkC true 53 && chkC false 53) = true := by kernel_rfl
theorem cc54 : (chkC true 54 && chkC false 54) = true := by kernel_rfl
theorem cc55 : (chkC true 55 && chkC false 55) = true := by kernel_rfl
theorem cc56 : (chkC true 56 && chkC false 56) = true := by kernel_rfl
theorem cc57 : (chkC true 57 && chkC false 57) = true := by kernel_rfl
theorem cc58 : (chkC true 58 && chkC false 58) = true := by kernel_rfl
theorem cc59 : (chkC true 59 && chkC false 59) = true := by kernel_rfl
theorem cc60 : (chkC true 60 && chkC false 60) = true := by kernel_rfl
theorem cc61 : (chkC true 61 && chkC false 61) = true := by kernel_rfl
theorem cc62 : (chkC true 62 && chkC false 62) = true := by kernel_rfl
theorem cc63 : (chkC true 63 && chkC false 63) = true := by kernel_rfl
theorem cc64 : (chkC true 64 && chkC false 64) = true := by kernel_rfl
theorem cc65 : (chkC true 65 && chkC false 65) = true := by kernel_rfl
theorem cc66 : (chkC true 66 && chkC false 66) = true := by kernel_rfl
theorem cc67 : (chkC true 67 && chkC false 67) = true := by kernel_rfl
theorem cc68 : (chkC true 68 && chkC false 68) = true := by kernel_rfl
theorem cc69 : (chkC true 69 && chkC false 69) = true := by kernel_rfl
theorem cc70 : (chkC true 70 && chkC false 70) = true := by kernel_rfl
theorem cc_all : ∀ k, 1 ≤ k → k ≤ 70 → (chkC true k && chkC false k) = true
  | 0, h, _ => by omega
  | 1, _, _ => cc1
  | 2, _, _ => cc2
  | 3, _, _ => cc3
  | 4, _, _ => cc4
  | 5, _, _ => cc5
  | 6, _, _ => cc6
  | 7, _, _ => cc7
  | 8, _, _ => cc8
  | 9, _, _ => cc9
  | 10, _, _ => cc10
  | 11, _, _ => cc11
  | 12, _, _ => cc12
  | 13, _, _ => cc13
  | 14, _, _ => cc14
  | 15, _, _ => cc15
  | 16, _, _ => cc16
  | 17, _, _ => cc17
  | 18, _, _ => cc18
  | 19, _, _ => cc19
  | 20, _, _ => cc20
  | 21, _, _ => cc21
  | 22, _, _ => cc22
  | 23, _, _ => cc23
  | 24, _, _ => cc24
  | 25, _, _ => cc25
  | 26, _, _ => cc26
  | 27, _, _ => cc27
  | 28, _, _ => cc28
  | 29, _, _ => cc29
  | 30, _, _ => cc30
  | 31, _, _ => cc31
  | 32, _, _ => cc32
  | 33, _, _ => cc33
  | 34, _, _ => cc34
  | 35, _, _ => cc35
  | 36, _, _ => cc36
  | 37, _, _ => cc37
  | 38, _, _ => cc38
  | 39, _, _ => cc39
  | 40, _, _ => cc40
  | 41, _, _ => cc41
  | 42, _, _ => cc42
  | 43, _, _ => cc43
  | 44, _, _ => cc44
  | 45, _, _ => cc45
  | 46, _, _ => cc46
  | 47, _, _ => cc47
  | 48, _, _ => cc48
  | 49, _, _ => cc49
  | 50, _, _ => cc50
  | 51, _, _ => cc51
  | 52, _, _ => cc52
  | 53, _, _ => cc53
  | 54, _, _ => cc54
  | 55, _, _ => cc55
  | 56, _, _ => cc56
  | 57, _, _ => cc57
  | 58, _, _ => cc58
  | 59, _, _ => cc59
  | 60, _, _ => cc60
  | 61, _, _ => cc61
  | 62, _, _ => cc62
  | 63, _, _ => cc63
  | 64, _, _ => cc64
  | 65, _, _ => cc65
  | 66, _, _ => cc66
  | 67, _, _ => cc67
  | 68, _, _ => cc68
  | 69, _, _ => cc69
  | 70, _, _ => cc70
  | n + 71, _, h => by omega
theorem chk_ok {k : Nat} (h1 : 1 ≤ k) (h2 : k ≤ 70) (bar : Bool) : chkC bar k = true := by
  have := cc_all k h1 h2
  rw [Bool.and_eq_true] at this
  cases bar
  · exact this.2
  · exact this.1
theorem cnt_ok {k : Nat} (h1 : 1 ≤ k) (h2 : k ≤ 70) (bar : Bool) : lightC (txC bar k) = true ∧ ∃ t, E.parse (txC bar k) = .ok t ∧ treeC t = true ∧ ((k ≤ 60 ∧ ct t ≤ 60 ∧ ansC bar k (auto t) = true) ∨ (60 < k ∧ 60 < ct t)) := by
  have h := chk_ok h1 h2 bar
  unfold chkC at h
  rw [Bool.and_eq_true] at h
  refine ⟨h.1, ?_⟩
  have h := h.2
  split at h
  · rename_i t ht
    rw [Bool.and_eq_true] at h
    refine ⟨t, ht, h.1, ?_⟩
    have h := h.2
    split at h
    · rw [Bool.and_eq_true, decide_eq_true_eq] at h
      exact .inl ⟨by assumption, h⟩
    · rw [decide_eq_true_eq] at h
      exact .inr ⟨by omega, h⟩
  · cases h
theorem ans_bar {k : Nat} {a : Au} (h : ansC true k a = true) : a.pl.length = k ∧ a.w.n = false ∧ a.w.f = 2 ^ k - 1 ∧ a.w.l = 2 ^ k - 1 ∧ folI a 0 = 0 := by
  unfold ansC at h
  simpa using h
theorem ans_cat {k : Nat} {a : Au} (h : ansC false k a = true) : a.pl.length = k ∧ a.w.n = false ∧ a.w.f = 1 ∧ a.w.l = 2 ^ (k - 1) ∧ (k = 1 ∨ folI a 0 = 2) := by
  unfold ansC at h
  simpa using h
end PA
end Go.Proofs.YtemanednddhfaaaGreatDoor
