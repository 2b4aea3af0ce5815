/- What RegexSets says: plain facts. -/
import Derived.Test.YteaaijhppmkfeaaGreatDoorPsp
namespace Go.Proofs.YteaaijhppmkfeaaGreatDoor
open Go.RowKit
namespace X
theorem next_char {c : UInt8} (h : 32 ≤ c.toNat ∧ c.toNat < 127 ∧ c ≠ 92) (u : List UInt8) : nextL (39 :: c :: u) = some (⟨4, [], (c.toNat : Int)⟩, 2) := by
  have hd : M.dec (c :: u) = (c.toNat, 1) := by
    unfold M.dec Lib.decodeN
    exact if_pos (show c.toNat < 128 by omega)
  have hc : charL (c :: u) = some (⟨4, [], (c.toNat : Int)⟩, 2) := by
    show (if c = 92 then charN u else if M.ok (M.dec (c :: u)) = true ∧ (M.dec (c :: u)).1 ≠ 10 then some (⟨4, [], ((M.dec (c :: u)).1 : Int)⟩, (M.dec (c :: u)).2 + 1) else none) = _
    rw [if_neg h.2.2, hd, if_pos ⟨by simp [M.ok]; omega, by show c.toNat ≠ 10; omega⟩]
  unfold nextL
  simp [isD, isL, hc]
theorem scan_ch (at_ : Nat) {c : UInt8} (h : 32 ≤ c.toNat ∧ c.toNat < 127 ∧ c ≠ 92) (u : List UInt8) : scan at_ (39 :: c :: u) = (scan (at_ + 2) u).map fun l => (⟨4, [], (c.toNat : Int)⟩, at_) :: l :=
  scan_some at_ _ (by decide) (by decide) (next_char h u)
theorem scan_sg (at_ : Nat) (c : UInt8) (h : c = 91 ∨ c = 93 ∨ c = 45 ∨ c = 94) (u : List UInt8) : scan at_ (c :: u) = (scan (at_ + 1) u).map fun l => (⟨6, [c], 0⟩, at_) :: l := by
  refine scan_some at_ u ?_ ?_ ?_
  · rcases h with rfl | rfl | rfl | rfl <;> decide
  · rcases h with rfl | rfl | rfl | rfl <;> decide
  · rcases h with rfl | rfl | rfl | rfl <;> (unfold nextL; simp [isD, isL, signs])
theorem scan_set (at_ : Nat) {x y z : UInt8} (hx : 32 ≤ x.toNat ∧ x.toNat < 127 ∧ x ≠ 92) (hy : 32 ≤ y.toNat ∧ y.toNat < 127 ∧ y ≠ 92) (hz : 32 ≤ z.toNat ∧ z.toNat < 127 ∧ z ≠ 92) :
    scan at_ [39, x, 45, 39, y, 32, 39, z, 93] = .ok [(⟨4, [], (x.toNat : Int)⟩, at_), (⟨6, [45], 0⟩, at_ + 2), (⟨4, [], (y.toNat : Int)⟩, at_ + 3), (⟨4, [], (z.toNat : Int)⟩, at_ + 6), (⟨6, [93], 0⟩, at_ + 8), (⟨0, [], 0⟩, at_ + 9)] := by
  rw [scan_ch at_ hx, scan_sg _ 45 (by decide), scan_ch _ hy, scan_blank _ _ (by decide), scan_ch _ hz, scan_sg _ 93 (by decide), scan_nil]
  rfl
end X
/-- The text of a set of a range and a letter. -/
def sx (nt : Bool) (x y z : UInt8) : List UInt8 := if nt = true then [91, 94, 39, x, 45, 39, y, 32, 39, z, 93] else [91, 39, x, 45, 39, y, 32, 39, z, 93]
/-- Its signs. -/
def sl (nt : Bool) (x y z : Int) : List E.Tok := if nt = true then [(⟨6, [91], 0⟩, 0), (⟨6, [94], 0⟩, 1), (⟨4, [], x⟩, 2), (⟨6, [45], 0⟩, 4), (⟨4, [], y⟩, 5), (⟨4, [], z⟩, 8), (⟨6, [93], 0⟩, 10), (⟨0, [], 0⟩, 11)]
  else [(⟨6, [91], 0⟩, 0), (⟨4, [], x⟩, 1), (⟨6, [45], 0⟩, 3), (⟨4, [], y⟩, 4), (⟨4, [], z⟩, 7), (⟨6, [93], 0⟩, 9), (⟨0, [], 0⟩, 10)]
theorem scan_sx (nt : Bool) {x y z : UInt8} (hx : 32 ≤ x.toNat ∧ x.toNat < 127 ∧ x ≠ 92) (hy : 32 ≤ y.toNat ∧ y.toNat < 127 ∧ y ≠ 92) (hz : 32 ≤ z.toNat ∧ z.toNat < 127 ∧ z ≠ 92) : X.scan 0 (sx nt x y z) = .ok (sl nt x.toNat y.toNat z.toNat) := by
  cases nt
  · rw [sx, if_neg (by decide), X.scan_sg _ 91 (by decide), X.scan_set _ hx hy hz]; rfl
  · rw [sx, if_pos rfl, X.scan_sg _ 91 (by decide), X.scan_sg _ 94 (by decide), X.scan_set _ hx hy hz]; rfl
theorem items_sl (nt : Bool) (x y z : Int) (h : x ≤ y) : E.items ((sl nt x y z).length + 1) (sl nt x y z) (if nt = true then 2 else 1) [] = .ok ([(x, y), (z, z)], if nt = true then 6 else 5) := by
  cases nt <;> simp [sl, E.items, E.item, E.isS, E.tk, h]
theorem items_no (nt : Bool) (x y z : Int) (h : ¬ x ≤ y) : E.items ((sl nt x y z).length + 1) (sl nt x y z) (if nt = true then 2 else 1) [] = .error (30, if nt = true then 2 else 1) := by
  cases nt <;> simp [sl, E.items, E.item, E.isS, E.tk, h]
theorem sl_nt (nt : Bool) (x y z : Int) : E.isS (E.tk (sl nt x y z) (0 + 1)) [94] = nt := by
  cases nt <;> rfl
theorem square_sl (nt : Bool) (x y z : Int) : E.square (sl nt x y z) 0 = if x ≤ y then (if E.finE nt [(x, y), (z, z)] = 0 then .ok (.mk 1 0 (E.finS nt [(x, y), (z, z)]) [] [], if nt = true then 7 else 6) else .error (30, if nt = true then 6 else 5)) else .error (30, if nt = true then 2 else 1) := by
  unfold E.square
  rw [sl_nt]
  by_cases h : x ≤ y
  · rw [if_pos h, show (if nt = true then 0 + 2 else 0 + 1) = (if nt = true then 2 else 1) by cases nt <;> rfl, items_sl nt x y z h]
    cases nt <;> rfl
  · rw [if_neg h, show (if nt = true then 0 + 2 else 0 + 1) = (if nt = true then 2 else 1) by cases nt <;> rfl, items_no nt x y z h]
theorem alt_sl (nt : Bool) (x y z : Int) : E.alt 20 (sl nt x y z) 0 = E.square (sl nt x y z) 0 := by
  rw [E.alt_eq]
  unfold E.altF E.catD E.catF E.repD E.repF
  rw [E.primD_eq]
  have h1 : (E.tk (sl nt x y z) 0).1.kind = 6 := by cases nt <;> rfl
  have h2 : E.isS (E.tk (sl nt x y z) 0) [46] = false := by cases nt <;> rfl
  have h3 : E.isS (E.tk (sl nt x y z) 0) [40] = false := by cases nt <;> rfl
  have h4 : E.isS (E.tk (sl nt x y z) 0) [91] = true := by cases nt <;> rfl
  rw [h1, h2, h3, h4]
  rw [if_neg (by decide), if_neg (by decide), if_neg (by decide), if_neg (by decide), if_neg (by decide), if_pos rfl]
  rw [square_sl]
  by_cases h : x ≤ y
  · rw [if_pos h]
    by_cases hf : E.finE nt [(x, y), (z, z)] = 0
    · rw [if_pos hf]
      cases nt <;> rfl
    · rw [if_neg hf]
  · rw [if_neg h]
theorem nL_good {xs : E.Rs} (hg : ∀ r ∈ xs, U.S.good r = true) (hl : xs.length ≤ 200) : E.nL xs = U.S.set xs ∧ E.nE xs = 0 := by
  have h : (xs.all U.S.good) = true ∧ (U.S.set xs).length ≤ 200 := ⟨List.all_eq_true.2 hg, Nat.le_trans (U.S.set_length xs) hl⟩
  exact ⟨by unfold E.nL; rw [if_pos h], by unfold E.nE; rw [if_pos h]⟩
theorem not_lenS (l : List U.S.R) : (U.S.not l).length ≤ l.length + 1 := by
  unfold U.S.not
  have := U.S.gaps_length (U.S.set l) 0
  have := U.S.set_length l
  omega
/-- What a set's text comes to. -/
theorem fin_sx (nt : Bool) {x y z : Int} (h0 : 0 ≤ x) (h1 : x ≤ y) (h2 : y ≤ 1114111) (h3 : 0 ≤ z) (h4 : z ≤ 1114111) :
    E.finE nt [(x, y), (z, z)] = 0 ∧ E.finS nt [(x, y), (z, z)] = if nt = true then U.S.set (U.S.not (U.S.set [(x, y), (z, z)])) else U.S.set [(x, y), (z, z)] := by
  have hn := nL_good (xs := [(x, y), (z, z)]) (by
    intro r hr
    rw [U.S.good_iff]
    rcases List.mem_cons.1 hr with rfl | hr
    · exact ⟨h0, h1, h2⟩
    · rw [List.mem_singleton] at hr
      rw [hr]
      exact ⟨h3, Int.le_refl _, h4⟩) (by simp)
  have hm := nL_good (xs := U.S.not (U.S.set [(x, y), (z, z)])) (U.S.not_canon _).good (by
    have := not_lenS (U.S.set [(x, y), (z, z)])
    have := U.S.set_length [(x, y), (z, z)]
    simp only [List.length_cons, List.length_nil] at this
    omega)
  unfold E.finE E.finS
  rw [hn.1, hn.2, hm.1, hm.2]
  cases nt <;> simp
end Go.Proofs.YteaaijhppmkfeaaGreatDoor
