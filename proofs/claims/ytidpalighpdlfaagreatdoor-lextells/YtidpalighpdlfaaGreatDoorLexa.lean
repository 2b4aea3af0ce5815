/- Signs of the rule language: what stands at a place, what a text is read as: plain definitions and their equations. -/
import Derived.Test.YtidpalighpdlfaaGreatDoorMath
namespace Go.Proofs.YtidpalighpdlfaaGreatDoor
namespace X
open M

def isL (c : UInt8) : Bool := (decide (97 ≤ c.toNat) && decide (c.toNat ≤ 122)) || (decide (65 ≤ c.toNat) && decide (c.toNat ≤ 90))
def isD (c : UInt8) : Bool := decide (48 ≤ c.toNat) && decide (c.toNat ≤ 57)
def isLD (c : UInt8) : Bool := isL c || isD c
def isI (c : UInt8) : Bool := isL c || isD c || c == 45 || c == 95
/-- A hexadecimal digit's number. -/
def hexv (c : UInt8) : Option Nat :=
  if isD c then some (c.toNat - 48) else if 97 ≤ c.toNat ∧ c.toNat ≤ 102 then some (c.toNat - 87) else if 65 ≤ c.toNat ∧ c.toNat ≤ 70 then some (c.toNat - 55) else none
def isH (c : UInt8) : Bool := (hexv c).isSome
def hexN (l : List UInt8) : Nat := l.foldl (fun n c => n * 16 + (hexv c).getD 0) 0
def blank (c : UInt8) : Bool := c == 32 || c == 9 || c == 13
def signs : List UInt8 := [91, 93, 40, 41, 124, 42, 43, 63, 46, 94, 45, 58, 61]

/-- A sign: its kind, its text, its number. -/
structure Tk where
  kind : Nat
  text : List UInt8
  r : Int
deriving DecidableEq

/-- What stands between quotes, and how many bytes up to the last quote, with it. -/
def wordB : List UInt8 → Option (List UInt8 × Nat)
  | [] => none
  | c :: u =>
    if c = 34 then some ([], 1)
    else if c = 10 then none
    else if c = 92 then
      match u with
      | [] => none
      | x :: v => if x = 34 ∨ x = 92 then (wordB v).map fun p => (x :: p.1, p.2 + 2) else none
    else (wordB u).map fun p => (c :: p.1, p.2 + 1)
/-- A word, behind its first quote. -/
def word (u : List UInt8) : Option (Tk × Nat) :=
  match wordB u with
  | none => none
  | some p => if good p.1 then some (⟨2, p.1, 0⟩, p.2 + 1) else none
/-- A character by its number, behind its backslash. -/
def charN (v : List UInt8) : Option (Tk × Nat) :=
  match v with
  | x :: y :: h =>
    if x = 117 ∧ y = 123 ∧ 1 ≤ (h.takeWhile isH).length ∧ (h.takeWhile isH).length ≤ 6 ∧ hexN (h.takeWhile isH) ≤ 1114111 ∧ (h.drop (h.takeWhile isH).length).head? = some 125
    then some (⟨4, [], (hexN (h.takeWhile isH) : Int)⟩, (h.takeWhile isH).length + 5) else none
  | _ => none
/-- A character, behind its quote. -/
def charL (u : List UInt8) : Option (Tk × Nat) :=
  match u with
  | [] => none
  | c :: v => if c = 92 then charN v else if ok (dec (c :: v)) = true ∧ (dec (c :: v)).1 ≠ 10 then some (⟨4, [], ((dec (c :: v)).1 : Int)⟩, (dec (c :: v)).2 + 1) else none
/-- The sign at the beginning, and its bytes. -/
def nextL (s : List UInt8) : Option (Tk × Nat) :=
  match s with
  | [] => none
  | c :: u =>
    if c = 10 then some (⟨7, [], 0⟩, 1)
    else if c = 36 then (if (u.head?.map isL) = some true ∧ (u.takeWhile isLD).length ≤ 20 then some (⟨1, u.takeWhile isLD, 0⟩, 1 + (u.takeWhile isLD).length) else none)
    else if isD c = true then (if ((c :: u).takeWhile isD).length ≤ 4 ∧ ¬ (1 < ((c :: u).takeWhile isD).length ∧ c = 48) then some (⟨3, (c :: u).takeWhile isD, 0⟩, ((c :: u).takeWhile isD).length) else none)
    else if isL c = true then some (⟨8, (c :: u).takeWhile isI, 0⟩, ((c :: u).takeWhile isI).length)
    else if c = 34 then word u
    else if c = 39 then charL u
    else if c = 123 then (if 1 ≤ (u.takeWhile isL).length ∧ (u.drop (u.takeWhile isL).length).head? = some 125 then some (⟨5, u.takeWhile isL, 0⟩, (u.takeWhile isL).length + 2) else none)
    else if (c = 62 ∧ u.head? = some 60) ∨ (c = 60 ∧ u.head? = some 62) then some (⟨6, (c :: u).take 2, 0⟩, 2)
    else if c ∈ signs then some (⟨6, [c], 0⟩, 1) else none

theorem wordB_size : ∀ (u : List UInt8) (p : List UInt8 × Nat), wordB u = some p → 1 ≤ p.2 ∧ p.2 ≤ u.length ∧ p.1.length + 1 ≤ p.2
  | [], p, h => by simp [wordB] at h
  | c :: u, p, h => by
    unfold wordB at h
    split at h
    · cases h; simp
    · split at h
      · cases h
      · split at h
        · split at h
          · cases h
          · rename_i x v
            split at h
            · cases hw : wordB v with
              | none => rw [hw] at h; cases h
              | some q =>
                rw [hw] at h
                cases h
                have := wordB_size v q hw
                simp
                omega
            · cases h
        · cases hw : wordB u with
          | none => rw [hw] at h; cases h
          | some q =>
            rw [hw] at h
            cases h
            have := wordB_size u q hw
            simp
            omega
theorem takeWhile_le {α : Type} (p : α → Bool) (l : List α) : (l.takeWhile p).length ≤ l.length := (List.takeWhile_sublist p).length_le
theorem next_size {s : List UInt8} {t : Tk} {n : Nat} (h : nextL s = some (t, n)) : 1 ≤ n ∧ n ≤ s.length := by
  cases s with
  | nil => simp [nextL] at h
  | cons c u =>
    unfold nextL at h
    simp only at h
    split at h
    · cases h; simp
    · split at h
      · split at h
        · cases h
          have := takeWhile_le isLD u
          simp; omega
        · cases h
      · split at h
        · rename_i hd
          split at h
          · cases h
            have := takeWhile_le isD (c :: u)
            rw [List.takeWhile_cons_of_pos hd] at this ⊢
            simp at this ⊢; omega
          · cases h
        · split at h
          · rename_i hl
            cases h
            have := takeWhile_le isI (c :: u)
            rw [List.takeWhile_cons_of_pos (by simp [isI, hl])] at this ⊢
            simp at this ⊢; omega
          · split at h
            · unfold word at h
              cases hw : wordB u with
              | none => rw [hw] at h; cases h
              | some p =>
                rw [hw] at h
                have := wordB_size u p hw
                simp only at h
                split at h
                · cases h; simp; omega
                · cases h
            · split at h
              · unfold charL at h
                cases u with
                | nil => cases h
                | cons x v =>
                  simp only at h
                  split at h
                  · unfold charN at h
                    split at h
                    · rename_i a b hh
                      split at h
                      · rename_i hc
                        cases h
                        have h1 := takeWhile_le isH hh
                        have h2 : (hh.takeWhile isH).length < hh.length := by
                          rcases Nat.lt_or_ge (hh.takeWhile isH).length hh.length with h3 | h3
                          · exact h3
                          · have := hc.2.2.2.2.2
                            rw [List.drop_eq_nil_of_le h3] at this
                            simp at this
                        simp; omega
                      · cases h
                    · cases h
                  · split at h
                    · cases h
                      have := dec_size (bs := x :: v) (by simp)
                      simp at this ⊢; omega
                    · cases h
              · split at h
                · split at h
                  · rename_i hc
                    cases h
                    have h1 := takeWhile_le isL u
                    have h2 : (u.takeWhile isL).length < u.length := by
                      rcases Nat.lt_or_ge (u.takeWhile isL).length u.length with h3 | h3
                      · exact h3
                      · have := hc.2
                        rw [List.drop_eq_nil_of_le h3] at this
                        simp at this
                    simp; omega
                  · cases h
                · split at h
                  · rename_i hc
                    cases h
                    cases u with
                    | nil => simp at hc
                    | cons x v => simp
                  · split at h
                    · cases h; simp
                    · cases h

/-- What a text is read as, from a place on (fuel: its length): its signs with their places, or the place of the first byte that begins none. -/
def scanF : Nat → Nat → List UInt8 → Except Nat (List (Tk × Nat))
  | _, at_, [] => .ok [(⟨0, [], 0⟩, at_)]
  | 0, at_, _ => .error at_
  | f + 1, at_, c :: u =>
    if blank c = true then scanF f (at_ + 1) u
    else if c = 35 then scanF f (at_ + ((c :: u).takeWhile (· ≠ 10)).length) ((c :: u).drop ((c :: u).takeWhile (· ≠ 10)).length)
    else match nextL (c :: u) with
      | none => .error at_
      | some p => (scanF f (at_ + p.2) ((c :: u).drop p.2)).map fun l => (p.1, at_) :: l
theorem com_pos (u : List UInt8) : 1 ≤ ((35 :: u).takeWhile (· ≠ 10)).length := by rw [List.takeWhile_cons_of_pos (by decide)]; simp
theorem scanF_fuel : ∀ (f g at_ : Nat) (s : List UInt8), s.length ≤ f → s.length ≤ g → scanF f at_ s = scanF g at_ s
  | f, g, at_, [], _, _ => by cases f <;> cases g <;> rfl
  | 0, _, _, _ :: _, h, _ => by simp at h
  | _, 0, _, _ :: _, _, h => by simp at h
  | f + 1, g + 1, at_, c :: u, hf, hg => by
    have hf' : u.length ≤ f := by simpa using hf
    have hg' : u.length ≤ g := by simpa using hg
    unfold scanF
    by_cases hb : blank c = true
    · rw [if_pos hb, if_pos hb]
      exact scanF_fuel f g _ u hf' hg'
    · rw [if_neg hb, if_neg hb]
      by_cases hc : c = 35
      · rw [if_pos hc, if_pos hc]
        subst hc
        have := com_pos u
        exact scanF_fuel f g _ _ (by rw [List.length_drop]; simp; omega) (by rw [List.length_drop]; simp; omega)
      · rw [if_neg hc, if_neg hc]
        cases hn : nextL (c :: u) with
        | none => rfl
        | some p =>
          have := next_size hn
          simp only
          rw [scanF_fuel f g _ _ (by rw [List.length_drop]; simp; omega) (by rw [List.length_drop]; simp; omega)]
def scan (at_ : Nat) (s : List UInt8) : Except Nat (List (Tk × Nat)) := scanF s.length at_ s
theorem scan_nil (at_ : Nat) : scan at_ [] = .ok [(⟨0, [], 0⟩, at_)] := rfl
theorem scan_blank (at_ : Nat) {c : UInt8} (u : List UInt8) (h : blank c = true) : scan at_ (c :: u) = scan (at_ + 1) u := by
  unfold scan
  rw [List.length_cons, scanF, if_pos h]
theorem scan_com (at_ : Nat) (u : List UInt8) : scan at_ (35 :: u) = scan (at_ + ((35 :: u).takeWhile (· ≠ 10)).length) ((35 :: u).drop ((35 :: u).takeWhile (· ≠ 10)).length) := by
  have := com_pos u
  unfold scan
  rw [List.length_cons, scanF, if_neg (by decide), if_pos rfl]
  exact scanF_fuel _ _ _ _ (by rw [List.length_drop]; simp only [List.length_cons] at *; omega) (Nat.le_refl _)
theorem scan_none (at_ : Nat) {c : UInt8} (u : List UInt8) (hb : blank c = false) (hc : c ≠ 35) (h : nextL (c :: u) = none) : scan at_ (c :: u) = .error at_ := by
  unfold scan
  rw [List.length_cons, scanF, if_neg (by rw [hb]; decide), if_neg hc, h]
theorem scan_some (at_ : Nat) {c : UInt8} (u : List UInt8) (hb : blank c = false) (hc : c ≠ 35) {t : Tk} {n : Nat} (h : nextL (c :: u) = some (t, n)) : scan at_ (c :: u) = (scan (at_ + n) ((c :: u).drop n)).map fun l => (t, at_) :: l := by
  have := next_size h
  unfold scan
  rw [List.length_cons, scanF, if_neg (by rw [hb]; decide), if_neg hc, h]
  simp only
  rw [scanF_fuel _ _ _ _ (by rw [List.length_drop]; simp; omega) (Nat.le_refl _)]
/-- By the length of what is left. -/
theorem scan_ind {p : Nat → List UInt8 → Prop} (h0 : ∀ at_, p at_ []) (hb : ∀ at_ c u, blank c = true → p (at_ + 1) u → p at_ (c :: u))
    (hc : ∀ at_ u, p (at_ + ((35 :: u).takeWhile (· ≠ 10)).length) ((35 :: u).drop ((35 :: u).takeWhile (· ≠ 10)).length) → p at_ (35 :: u))
    (hn : ∀ at_ c u, blank c = false → c ≠ 35 → nextL (c :: u) = none → p at_ (c :: u))
    (hs : ∀ at_ c u t n, blank c = false → c ≠ 35 → nextL (c :: u) = some (t, n) → p (at_ + n) ((c :: u).drop n) → p at_ (c :: u)) : ∀ (at_ : Nat) (s : List UInt8), p at_ s
  | at_, [] => h0 at_
  | at_, c :: u => by
    cases hbl : blank c with
    | true => exact hb _ _ _ hbl (scan_ind h0 hb hc hn hs _ u)
    | false =>
      by_cases h35 : c = 35
      · subst h35
        have := com_pos u
        have hlt : ((35 :: u).drop ((35 :: u).takeWhile (· ≠ 10)).length).length < (35 :: u).length := by rw [List.length_drop]; simp; omega
        exact hc _ _ (scan_ind h0 hb hc hn hs _ _)
      · cases hx : nextL (c :: u) with
        | none => exact hn _ _ _ hbl h35 hx
        | some p =>
          obtain ⟨t, n⟩ := p
          have := next_size hx
          have hlt : ((c :: u).drop n).length < (c :: u).length := by rw [List.length_drop]; simp; omega
          exact hs _ _ _ t n hbl h35 hx (scan_ind h0 hb hc hn hs _ _)
termination_by _ s => s.length
end X
end Go.Proofs.YtidpalighpdlfaaGreatDoor
