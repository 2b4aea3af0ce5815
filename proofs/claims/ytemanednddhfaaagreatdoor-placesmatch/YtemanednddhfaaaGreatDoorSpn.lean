/- span and item of regex's reader. -/
import Derived.Test.YtemanednddhfaaaGreatDoorLf2
import Derived.Test.YtemanednddhfaaaGreatDoorJF
import Derived.Test.YtemanednddhfaaaGreatDoorJG
namespace Go.Proofs.YtemanednddhfaaaGreatDoor
open Go.RowKit
open E (T tk isS rpt beg)
theorem normL_eq (xs : E.Rs) : U.normL xs = E.nL xs := rfl
theorem normE_eq (xs : E.Rs) : U.normE xs = (E.nE xs : Int) := by
 unfold U.normE E.nE
 split <;> rfl
theorem n_one {a b : Int} (h0 : 0 ≤ a) (h1 : a ≤ b) (h2 : b ≤ 1114111) : E.nL [(a, b)] = [(a, b)] ∧ E.nE [(a, b)] = 0 := by
 have hg : U.S.good (a, b) = true := (U.S.good_iff _).2 ⟨h0, h1, h2⟩
 have hs := U.S.set_self (U.S.canon_one hg)
 constructor
 · unfold E.nL
   rw [if_pos ⟨by simp [hg], by rw [hs]; simp⟩, hs]
 · unfold E.nE
   rw [if_pos ⟨by simp [hg], by rw [hs]; simp⟩]
theorem Kp.keep {w W : World} {x b : Nat} {o : Obj} (h : Kp w.heap.size x w W) (hb : w.heap[b]? = some o) (hx : b ≠ x) : W.heap[b]? = some o := h.tabs (Nat.le_refl _) hb hx
end Go.Proofs.YtemanednddhfaaaGreatDoor
