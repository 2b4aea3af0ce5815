/- What RegexSets says: plain facts. -/
import Derived.Test.YtamhjnemmdcniaaGreatDoorVPsp
namespace Go.Proofs.YtamhjnemmdcniaaGreatDoor
open Go.RowKit
namespace X
theorem next_char {c : UInt8} (h : 32 ≤ c.toNat ∧ c.toNat < 127 ∧ c ≠ 92) (u : List UInt8) : nextL (39 :: c :: u) = some (⟨4, [], (c.toNat : Int)⟩, 2) := by
 have hd : M.dec (c :: u) = (c.toNat, 1) := by
   unfold M.dec Lib.decodeN
   exact if_pos (show c.toNat < 128 by omega)
 have hc : charL (c :: u) = some (⟨4, [], (c.toNat : Int)⟩, 2) := by
   show (if c = 92 then charN u else if M.ok (M.dec (c :: u)) = true ∧ (M.dec (c :: u)).1 ≠ 10 then some (⟨4, [], ((M.dec (c :: u)).1 : Int)⟩, (M.dec (c :: u)).2 + 1) else none) = _
   rw [if_neg h.2.2, hd, if_pos ⟨by simp [M.ok]; omega, by show c.toNat ≠ 10; omega⟩]
 unfold nextL
 simp [isD, isL, hc]
end X
def sl (nt : Bool) (x y z : Int) : List E.Tok := if nt = true then [(⟨6, [91], 0⟩, 0), (⟨6, [94], 0⟩, 1), (⟨4, [], x⟩, 2), (⟨6, [45], 0⟩, 4), (⟨4, [], y⟩, 5), (⟨4, [], z⟩, 8), (⟨6, [93], 0⟩, 10), (⟨0, [], 0⟩, 11)]
 else [(⟨6, [91], 0⟩, 0), (⟨4, [], x⟩, 1), (⟨6, [45], 0⟩, 3), (⟨4, [], y⟩, 4), (⟨4, [], z⟩, 7), (⟨6, [93], 0⟩, 9), (⟨0, [], 0⟩, 10)]
theorem not_lenS (l : List U.S.R) : (U.S.not l).length ≤ l.length + 1 := by
 unfold U.S.not
 have := U.S.gaps_length (U.S.set l) 0
 have := U.S.set_length l
 omega
end Go.Proofs.YtamhjnemmdcniaaGreatDoor
