/- Signs: what follows doesn't matter behind a blank; which signs there are; how one is printed, and read again. -/
import Derived.Test.YtidpalighpdlfaaGreatDoorLexa
namespace Go.Proofs.YtidpalighpdlfaaGreatDoor
namespace X
open M

/-- A byte at which every sign ends. -/
def sep (h : UInt8) : Bool := h == 32 || h == 9 || h == 13 || h == 10 || h == 35
def Stop (v : List UInt8) : Prop := v = [] ∨ ∃ h w, v = h :: w ∧ sep h = true
theorem sep_cases {h : UInt8} (hs : sep h = true) : h = 32 ∨ h = 9 ∨ h = 13 ∨ h = 10 ∨ h = 35 := by
  simp only [sep, Bool.or_eq_true, beq_iff_eq] at hs
  rcases hs with (((h | h) | h) | h) | h
  · exact .inl h
  · exact .inr (.inl h)
  · exact .inr (.inr (.inl h))
  · exact .inr (.inr (.inr (.inl h)))
  · exact .inr (.inr (.inr (.inr h)))
theorem stop_at {v : List UInt8} (hv : Stop v) {p : UInt8 → Bool} (h1 : p 32 = false) (h2 : p 9 = false) (h3 : p 13 = false) (h4 : p 10 = false) (h5 : p 35 = false) : v = [] ∨ ∃ h w, v = h :: w ∧ p h = false := by
  rcases hv with rfl | ⟨h, w, rfl, hs⟩
  · exact .inl rfl
  · refine .inr ⟨h, w, rfl, ?_⟩
    rcases sep_cases hs with rfl | rfl | rfl | rfl | rfl <;> assumption
theorem tw_stop {p : UInt8 → Bool} {v : List UInt8} (hv : v = [] ∨ ∃ h w, v = h :: w ∧ p h = false) (u : List UInt8) : (u ++ v).takeWhile p = u.takeWhile p := by
  induction u with
  | nil =>
    rcases hv with rfl | ⟨h, w, rfl, hp⟩
    · rfl
    · rw [List.nil_append, List.takeWhile_cons_of_neg (by rw [hp]; decide)]; rfl
  | cons c u ih =>
    by_cases hc : p c = true
    · rw [List.cons_append, List.takeWhile_cons_of_pos hc, List.takeWhile_cons_of_pos hc, ih]
    · rw [List.cons_append, List.takeWhile_cons_of_neg hc, List.takeWhile_cons_of_neg hc]
theorem head_app {u v : List UInt8} {c : UInt8} (h : u.head? = some c) : (u ++ v).head? = some c := by
  cases u with
  | nil => cases h
  | cons _ _ => exact h
theorem drop_head_app {u v : List UInt8} {k : Nat} {c : UInt8} (h : (u.drop k).head? = some c) : ((u ++ v).drop k).head? = some c := by
  rcases Nat.lt_or_ge k u.length with hk | hk
  · rw [List.drop_append_of_le_length (Nat.le_of_lt hk)]
    exact head_app h
  · rw [List.drop_eq_nil_of_le hk] at h
    cases h
theorem wordB_ext (v : List UInt8) : ∀ (u : List UInt8) (p : List UInt8 × Nat), wordB u = some p → wordB (u ++ v) = some p
  | [], p, h => by simp [wordB] at h
  | c :: u, p, h => by
    rw [List.cons_append]
    unfold wordB at h ⊢
    by_cases h1 : c = 34
    · rw [if_pos h1] at h ⊢; exact h
    · rw [if_neg h1] at h ⊢
      by_cases h2 : c = 10
      · rw [if_pos h2] at h; cases h
      · rw [if_neg h2] at h ⊢
        by_cases h3 : c = 92
        · rw [if_pos h3] at h ⊢
          cases u with
          | nil => cases h
          | cons x w =>
            simp only [List.cons_append] at h ⊢
            by_cases h4 : x = 34 ∨ x = 92
            · rw [if_pos h4] at h ⊢
              cases hw : wordB w with
              | none => rw [hw] at h; cases h
              | some q => rw [wordB_ext v w q hw]; rw [hw] at h; exact h
            · rw [if_neg h4] at h; cases h
        · rw [if_neg h3] at h ⊢
          cases hw : wordB u with
          | none => rw [hw] at h; cases h
          | some q => rw [wordB_ext v u q hw]; rw [hw] at h; exact h
theorem dec_ext {u : List UInt8} (hu : u ≠ []) (h : ok (dec u) = true) (v : List UInt8) : dec (u ++ v) = dec u := by
  have h1 := enc_dec u hu h
  have h2 := dec_size hu
  have h3 := dec_point u
  have e : u ++ v = enc ((dec u).1 : Int) ++ (u.drop (dec u).2 ++ v) := by rw [h1, ← List.append_assoc, List.take_append_drop]
  have h4 := dec_enc ((dec u).1 : Int) (u.drop (dec u).2 ++ v)
  rw [← e] at h4
  have hf : fix ((dec u).1 : Int) = ((dec u).1 : Int) := by unfold fix; rw [if_pos (by omega)]
  rw [hf, h1, List.length_take] at h4
  refine Prod.ext ?_ ?_
  · have := h4.1; omega
  · have := h4.2.1; omega
theorem next_ext {s : List UInt8} {t : Tk} {n : Nat} (h : nextL s = some (t, n)) {v : List UInt8} (hv : Stop v) : nextL (s ++ v) = some (t, n) := by
  have w1 := fun u => tw_stop (stop_at hv (p := isLD) (by decide) (by decide) (by decide) (by decide) (by decide)) u
  have w2 := fun u => tw_stop (stop_at hv (p := isD) (by decide) (by decide) (by decide) (by decide) (by decide)) u
  have w3 := fun u => tw_stop (stop_at hv (p := isI) (by decide) (by decide) (by decide) (by decide) (by decide)) u
  have w4 := fun u => tw_stop (stop_at hv (p := isL) (by decide) (by decide) (by decide) (by decide) (by decide)) u
  have w5 := fun u => tw_stop (stop_at hv (p := isH) (by decide) (by decide) (by decide) (by decide) (by decide)) u
  cases s with
  | nil => simp [nextL] at h
  | cons c u =>
    have e2 := w2 (c :: u)
    have e3 := w3 (c :: u)
    rw [List.cons_append] at e2 e3 ⊢
    unfold nextL at h ⊢
    simp only at h ⊢
    by_cases h1 : c = 10
    · rw [if_pos h1] at h ⊢; exact h
    · rw [if_neg h1] at h ⊢
      by_cases h2 : c = 36
      · rw [if_pos h2] at h ⊢
        rw [w1]
        split at h
        · rename_i hc
          cases hu : u.head? with
          | none => rw [hu] at hc; simp at hc
          | some x =>
            rw [head_app hu]
            rw [hu] at hc
            rw [if_pos hc]
            exact h
        · cases h
      · rw [if_neg h2] at h ⊢
        by_cases h3 : isD c = true
        · rw [if_pos h3] at h ⊢
          rw [e2]
          exact h
        · rw [if_neg h3] at h ⊢
          by_cases h4 : isL c = true
          · rw [if_pos h4] at h ⊢
            rw [e3]
            exact h
          · rw [if_neg h4] at h ⊢
            by_cases h5 : c = 34
            · rw [if_pos h5] at h ⊢
              unfold word at h ⊢
              cases hw : wordB u with
              | none => rw [hw] at h; cases h
              | some p => rw [wordB_ext v u p hw]; rw [hw] at h; exact h
            · rw [if_neg h5] at h ⊢
              by_cases h6 : c = 39
              · rw [if_pos h6] at h ⊢
                cases u with
                | nil => simp [charL] at h
                | cons x w =>
                  rw [List.cons_append]
                  unfold charL at h ⊢
                  simp only at h ⊢
                  by_cases h7 : x = 92
                  · rw [if_pos h7] at h ⊢
                    unfold charN at h ⊢
                    match w, h with
                    | a :: b :: hh, h =>
                      simp only [List.cons_append] at h ⊢
                      rw [w5]
                      split at h
                      · rename_i hc
                        rw [if_pos ⟨hc.1, hc.2.1, hc.2.2.1, hc.2.2.2.1, hc.2.2.2.2.1, drop_head_app hc.2.2.2.2.2⟩]
                        exact h
                      · cases h
                  · rw [if_neg h7] at h ⊢
                    split at h
                    · rename_i hc
                      have e := dec_ext (u := x :: w) (by simp) hc.1 v
                      rw [List.cons_append] at e
                      rw [e, if_pos hc]
                      exact h
                    · cases h
              · rw [if_neg h6] at h ⊢
                by_cases h7 : c = 123
                · rw [if_pos h7] at h ⊢
                  rw [w4]
                  split at h
                  · rename_i hc
                    rw [if_pos ⟨hc.1, drop_head_app hc.2⟩]
                    exact h
                  · cases h
                · rw [if_neg h7] at h ⊢
                  by_cases h8 : (c = 62 ∧ u.head? = some 60) ∨ (c = 60 ∧ u.head? = some 62)
                  · have h9 : (c = 62 ∧ (u ++ v).head? = some 60) ∨ (c = 60 ∧ (u ++ v).head? = some 62) := h8.imp (fun x => ⟨x.1, head_app x.2⟩) (fun x => ⟨x.1, head_app x.2⟩)
                    rw [if_pos h8] at h
                    rw [if_pos h9]
                    cases u with
                    | nil => simp at h8
                    | cons x w => exact h
                  · rw [if_neg h8] at h
                    have hcs : c ∈ signs := by
                      by_cases hc : c ∈ signs
                      · exact hc
                      · rw [if_neg hc] at h; cases h
                    have h9 : ¬ ((c = 62 ∧ (u ++ v).head? = some 60) ∨ (c = 60 ∧ (u ++ v).head? = some 62)) := by
                      rintro (⟨rfl, _⟩ | ⟨rfl, _⟩)
                      · exact absurd hcs (by decide)
                      · exact absurd hcs (by decide)
                    rw [if_neg h9]
                    exact h

/-- The signs that there are. -/
inductive V : Tk → Prop
  | line : V ⟨7, [], 0⟩
  | name (d : List UInt8) (h1 : d.head?.map isL = some true) (h2 : ∀ c ∈ d, isLD c = true) (h3 : d.length ≤ 20) : V ⟨1, d, 0⟩
  | num (c : UInt8) (d : List UInt8) (h1 : ∀ x ∈ c :: d, isD x = true) (h2 : (c :: d).length ≤ 4) (h3 : ¬ (1 < (c :: d).length ∧ c = 48)) : V ⟨3, c :: d, 0⟩
  | ident (c : UInt8) (d : List UInt8) (h1 : isL c = true) (h2 : ∀ x ∈ c :: d, isI x = true) : V ⟨8, c :: d, 0⟩
  | word (b : List UInt8) (h1 : good b = true) (h2 : (10 : UInt8) ∉ b) : V ⟨2, b, 0⟩
  | char (r : Int) (h1 : 0 ≤ r) (h2 : r ≤ 1114111) : V ⟨4, [], r⟩
  | prop (d : List UInt8) (h1 : 1 ≤ d.length) (h2 : ∀ c ∈ d, isL c = true) : V ⟨5, d, 0⟩
  | sign2 (d : List UInt8) (h : d = [62, 60] ∨ d = [60, 62]) : V ⟨6, d, 0⟩
  | sign1 (c : UInt8) (h : c ∈ signs) : V ⟨6, [c], 0⟩
theorem tw_all {p : UInt8 → Bool} {u : List UInt8} : ∀ c ∈ u.takeWhile p, p c = true := fun c hc => by
  have := List.all_takeWhile (p := p) (l := u)
  exact List.all_eq_true.1 this c hc
theorem wordB_nl : ∀ (u : List UInt8) (p : List UInt8 × Nat), wordB u = some p → (10 : UInt8) ∉ p.1
  | [], p, h => by simp [wordB] at h
  | c :: u, p, h => by
    unfold wordB at h
    split at h
    · cases h; simp
    · split at h
      · cases h
      · rename_i hc10
        split at h
        · split at h
          · cases h
          · rename_i x v
            split at h
            · rename_i hx
              cases hw : wordB v with
              | none => rw [hw] at h; cases h
              | some q =>
                rw [hw] at h
                cases h
                have := wordB_nl v q hw
                simp only [List.mem_cons, not_or]
                refine ⟨?_, this⟩
                rcases hx with rfl | rfl <;> decide
            · cases h
        · cases hw : wordB u with
          | none => rw [hw] at h; cases h
          | some q =>
            rw [hw] at h
            cases h
            have := wordB_nl u q hw
            simp only [List.mem_cons, not_or]
            exact ⟨fun e => hc10 e.symm, this⟩
theorem next_V {s : List UInt8} {t : Tk} {n : Nat} (h : nextL s = some (t, n)) : V t := by
  cases s with
  | nil => simp [nextL] at h
  | cons c u =>
    unfold nextL at h
    simp only at h
    split at h
    · cases h; exact .line
    · split at h
      · split at h
        · rename_i hc
          cases h
          refine .name _ ?_ tw_all hc.2
          cases u with
          | nil => simp at hc
          | cons x w =>
            have hx : isL x = true := by simpa using hc.1
            rw [List.takeWhile_cons_of_pos (by simp [isLD, hx])]
            simp [hx]
        · cases h
      · split at h
        · rename_i hd
          split at h
          · rename_i hc
            cases h
            rw [List.takeWhile_cons_of_pos hd] at hc ⊢
            refine .num c _ ?_ hc.1 hc.2
            intro x hx
            rcases List.mem_cons.1 hx with rfl | hx
            · exact hd
            · exact tw_all x hx
          · cases h
        · split at h
          · rename_i hl
            cases h
            rw [List.takeWhile_cons_of_pos (by simp [isI, hl])]
            refine .ident c _ hl ?_
            intro x hx
            rcases List.mem_cons.1 hx with rfl | hx
            · simp [isI, hl]
            · exact tw_all x hx
          · split at h
            · unfold word at h
              cases hw : wordB u with
              | none => rw [hw] at h; cases h
              | some p =>
                rw [hw] at h
                simp only at h
                split at h
                · rename_i hg
                  cases h
                  exact .word _ hg (wordB_nl u p hw)
                · cases h
            · split at h
              · unfold charL at h
                cases u with
                | nil => cases h
                | cons x v =>
                  simp only at h
                  split at h
                  · unfold charN at h
                    split at h
                    · split at h
                      · rename_i hc
                        cases h
                        exact .char _ (by omega) (by have := hc.2.2.2.2.1; omega)
                      · cases h
                    · cases h
                  · split at h
                    · cases h
                      have := dec_point (x :: v)
                      exact .char _ (by omega) (by omega)
                    · cases h
              · split at h
                · split at h
                  · rename_i hc
                    cases h
                    exact .prop _ hc.1 tw_all
                  · cases h
                · split at h
                  · rename_i hc
                    cases h
                    cases u with
                    | nil => simp at hc
                    | cons x w =>
                      refine .sign2 _ ?_
                      simp only [List.head?_cons, Option.some.injEq] at hc
                      rcases hc with ⟨rfl, rfl⟩ | ⟨rfl, rfl⟩
                      · exact .inl rfl
                      · exact .inr rfl
                  · split at h
                    · rename_i hc
                      cases h
                      exact .sign1 c hc
                    · cases h
end X
end Go.Proofs.YtidpalighpdlfaaGreatDoor
