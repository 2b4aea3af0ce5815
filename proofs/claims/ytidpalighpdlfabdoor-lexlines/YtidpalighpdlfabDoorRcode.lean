/- The reference's Code and Quote. -/
import Derived.Test.YtidpalighpdlfabDoorBas
namespace Go.Proofs.YtidpalighpdlfabDoor
open Go.RowKit

theorem cat_eq (a b : List UInt8) : (⟨a.toArray⟩ : ByteArray) ++ ⟨b.toArray⟩ = ⟨(a ++ b).toArray⟩ := by
  apply ByteArray.ext
  simp
theorem hex_ext : ∀ d, d < 16 → ByteArray.extract ⟨#[48, 49, 50, 51, 52, 53, 54, 55, 56, 57, 65, 66, 67, 68, 69, 70]⟩ d (d + 1) = ⟨[X.hexc d].toArray⟩ := by
  intro d hd
  have h : d = 0 ∨ d = 1 ∨ d = 2 ∨ d = 3 ∨ d = 4 ∨ d = 5 ∨ d = 6 ∨ d = 7 ∨ d = 8 ∨ d = 9 ∨ d = 10 ∨ d = 11 ∨ d = 12 ∨ d = 13 ∨ d = 14 ∨ d = 15 := by omega
  apply ByteArray.ext
  rcases h with rfl | rfl | rfl | rfl | rfl | rfl | rfl | rfl | rfl | rfl | rfl | rfl | rfl | rfl | rfl | rfl <;> decide
theorem quoteB_app : ∀ (a b : List UInt8), X.quoteB (a ++ b) = X.quoteB a ++ X.quoteB b
  | [], b => rfl
  | c :: a, b => by
    have ih := quoteB_app a b
    by_cases h : c = 34 ∨ c = 92
    · simp only [List.cons_append, X.quoteB, if_pos h, ih]
    · simp only [List.cons_append, X.quoteB, if_neg h, ih]
theorem cut_one {s : ByteArray} {n : Nat} (h : n < (bts s).length) : s.extract n (n + 1) = ⟨[(bts s)[n]].toArray⟩ := by
  apply ByteArray.ext
  have h' : n < s.data.size := by simpa [bts] using h
  rw [ByteArray.data_extract]
  apply Array.ext
  · simp
    have : s.data.size = s.size := rfl
    omega
  · intro i h1 h2
    have : i = 0 := by simpa using h2
    subst this
    simp [bts]

end Go.Proofs.YtidpalighpdlfabDoor
