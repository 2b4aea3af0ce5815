/- What the places of an expression tell is what it matches: plain. -/
import Derived.Test.YtemanednddhfaaaGreatDoorUHas
import Derived.Test.YtemanednddhfaaaGreatDoorJD
import Derived.WalkSmall
import Derived.Test.YtemanednddhfaaaGreatDoorPre
import Derived.Maps.AppendAt
import Derived.Test.YtemanednddhfaaaGreatDoorPlt
namespace Go.Proofs.YtemanednddhfaaaGreatDoor
namespace E
inductive Star (L : List Int → Prop) : List Int → Prop
 | nil : Star L []
 | app {x y : List Int} : L x → Star L y → Star L (x ++ y)
theorem Star.snoc {L : List Int → Prop} {x y : List Int} (h : Star L x) (hy : L y) : Star L (x ++ y) := by
 induction h with
 | nil => simpa using Star.app hy Star.nil
 | app hx _ ih => rw [List.append_assoc]; exact Star.app hx ih
theorem Star.one {L : List Int → Prop} {x : List Int} (h : L x) : Star L x := by simpa using Star.app h Star.nil
theorem Star.last {L : List Int → Prop} {u : List Int} (h : Star L u) : u = [] ∨ ∃ x y, u = x ++ y ∧ Star L x ∧ L y ∧ y ≠ [] := by
 induction h with
 | nil => exact .inl rfl
 | @app x y hx hy ih =>
   rcases ih with rfl | ⟨a, b, rfl, h1, h2, h3⟩
   · by_cases hn : x = []
     · exact .inl (by simp [hn])
     · exact .inr ⟨[], x, by simp, .nil, hx, hn⟩
   · exact .inr ⟨x ++ a, b, by simp, Star.app hx h1, h2, h3⟩
theorem Star.first {L : List Int → Prop} {u : List Int} (h : Star L u) : u = [] ∨ ∃ x y, u = x ++ y ∧ L x ∧ Star L y ∧ x ≠ [] := by
 induction h with
 | nil => exact .inl rfl
 | @app x y hx hy ih =>
   by_cases hn : x = []
   · subst hn; simpa using ih
   · exact .inr ⟨x, y, rfl, hx, hy, hn⟩
inductive Rx where
 | leaf (k : Int) (s : List (Int × Int))
 | one (k : Int) (a : Rx)
 | two (k : Int) (a b : Rx)
def inS (s : List (Int × Int)) (r : Int) : Bool := U.S.hB s r
def Rx.L : Rx → List Int → Prop
 | .leaf k s, u => if k = 1 then ∃ r, u = [r] ∧ inS s r = true else u = []
 | .one k a, u => if k = 8 then u = [] ∨ a.L u else if k = 7 then ∃ x y, u = x ++ y ∧ a.L x ∧ Star a.L y else Star a.L u
 | .two k a b, u => if k = 4 then ∃ x y, u = x ++ y ∧ a.L x ∧ b.L y else a.L u ∨ b.L u
def Rx.nul : Rx → Bool
 | .leaf k _ => !(k == 1)
 | .one k a => if k = 7 then a.nul else true
 | .two k a b => if k = 4 then a.nul && b.nul else a.nul || b.nul
theorem Rx.nul_iff (x : Rx) : x.nul = true ↔ x.L [] := by
 induction x with
 | leaf k s =>
   unfold Rx.nul Rx.L
   by_cases h : k = 1 <;> simp [h]
 | one k a ih =>
   unfold Rx.nul Rx.L
   by_cases h : k = 7
   · subst h
     rw [if_pos rfl, if_neg (by decide), if_pos rfl, ih]
     constructor
     · intro h; exact ⟨[], [], rfl, h, .nil⟩
     · rintro ⟨x, y, e, h1, _⟩
       have := List.append_eq_nil_iff.1 e.symm
       rw [this.1] at h1
       exact h1
   · simp only [if_neg h]
     refine ⟨fun _ => ?_, fun _ => trivial⟩
     by_cases h8 : k = 8
     · rw [if_pos h8]; exact .inl trivial
     · rw [if_neg h8]; exact .nil
 | two k a b iha ihb =>
   unfold Rx.nul Rx.L
   by_cases h : k = 4
   · subst h
     simp only [if_pos, Bool.and_eq_true, iha, ihb]
     constructor
     · rintro ⟨h1, h2⟩; exact ⟨[], [], rfl, h1, h2⟩
     · rintro ⟨x, y, e, h1, h2⟩
       have := List.append_eq_nil_iff.1 e.symm
       rw [this.1] at h1
       rw [this.2] at h2
       exact ⟨h1, h2⟩
   · simp only [if_neg h, Bool.or_eq_true, iha, ihb]
inductive Ps where
 | leaf (k : Int) (s : List (Int × Int)) (nu en go : Bool)
 | one (k : Int) (a : Ps) (nu en go : Bool)
 | two (k : Int) (a b : Ps) (nu en go : Bool)
def Ps.nu : Ps → Bool | .leaf _ _ n _ _ => n | .one _ _ n _ _ => n | .two _ _ _ n _ _ => n
def Ps.en : Ps → Bool | .leaf _ _ _ e _ => e | .one _ _ _ e _ => e | .two _ _ _ _ e _ => e
def Ps.go : Ps → Bool | .leaf _ _ _ _ g => g | .one _ _ _ _ g => g | .two _ _ _ _ _ g => g
def Rx.ps : Rx → Ps
 | .leaf k s => .leaf k s (!(k == 1)) false false
 | .one k a => .one k a.ps (Rx.one k a).nul false false
 | .two k a b => .two k a.ps b.ps (Rx.two k a b).nul false false
def Ps.rd : Ps → Int → Bool → Ps
 | .leaf k s n e _, r, b => let e' := if k = 1 then b && inS s r else e; .leaf k s n e' e'
 | .one k a n _ _, r, b => let a' := a.rd r (if k = 8 then b else b || a.en); .one k a' n a'.en (a'.en || a'.go)
 | .two k x y n _ _, r, b =>
   let x' := x.rd r b
   let y' := y.rd r (if k = 4 then b && x.nu || x.en else b)
   let e' := if k = 4 then y'.en || x'.en && y'.nu else x'.en || y'.en
   .two k x' y' n e' (e' || x'.go || y'.go)
def Ps.read : Ps → Int → Bool → Ps
 | .leaf k s n e g, r, b => if !b && !g then .leaf k s n e g else let e' := if k = 1 then b && inS s r else e; .leaf k s n e' e'
 | .one k a n e g, r, b => if !b && !g then .one k a n e g else let a' := a.read r (if k = 8 then b else b || a.en); .one k a' n a'.en (a'.en || a'.go)
 | .two k x y n e g, r, b => if !b && !g then .two k x y n e g else
   let x' := x.read r b
   let y' := y.read r (if k = 4 then b && x.nu || x.en else b)
   let e' := if k = 4 then y'.en || x'.en && y'.nu else x'.en || y'.en
   .two k x' y' n e' (e' || x'.go || y'.go)
def Ps.Ok : Ps → Prop
 | .leaf _ _ _ e g => g = e
 | .one _ a _ e g => a.Ok ∧ g = (e || a.go) ∧ (e = a.en)
 | .two k x y _ e g => x.Ok ∧ y.Ok ∧ g = (e || x.go || y.go) ∧ e = (if k = 4 then y.en || x.en && y.nu else x.en || y.en)
theorem Ps.Ok.en_go {p : Ps} (h : p.Ok) : p.go = false → p.en = false := by
 cases p <;> simp only [Ps.Ok] at h <;> simp only [Ps.go, Ps.en]
 · intro hg; rw [← h]; exact hg
 · intro hg; rw [h.2.1] at hg; simp at hg; exact hg.1
 · intro hg; rw [h.2.2.1] at hg; simp at hg; exact hg.1.1
theorem Ps.rd_ok (p : Ps) (r : Int) (b : Bool) : (p.rd r b).Ok := by
 induction p generalizing b with
 | leaf => simp [Ps.rd, Ps.Ok]
 | one k a n e g ih => simp only [Ps.rd, Ps.Ok]; exact ⟨ih _, trivial, trivial⟩
 | two k x y n e g ihx ihy => simp only [Ps.rd, Ps.Ok]; exact ⟨ihx _, ihy _, trivial, trivial⟩
theorem Ps.rd_still {p : Ps} (h : p.Ok) (hg : p.go = false) (r : Int) : p.rd r false = p := by
 induction p with
 | leaf k s n e g =>
   simp only [Ps.Ok] at h
   simp only [Ps.go] at hg
   subst h
   subst hg
   simp [Ps.rd]
 | one k a n e g ih =>
   simp only [Ps.Ok] at h
   simp only [Ps.go] at hg
   obtain ⟨h1, h2, h3⟩ := h
   rw [hg] at h2
   have h4 : e = false ∧ a.go = false := by simpa using h2.symm
   obtain ⟨rfl, h5⟩ := h4
   have h6 := ih h1 h5
   have h7 := h1.en_go h5
   simp only [Ps.rd, h7, Bool.or_false, ite_self, h6, h5, hg]
 | two k x y n e g ihx ihy =>
   simp only [Ps.Ok] at h
   simp only [Ps.go] at hg
   obtain ⟨h1, h2, h3, h4⟩ := h
   rw [hg] at h3
   have h5 : (e = false ∧ x.go = false) ∧ y.go = false := by simpa using h3.symm
   obtain ⟨⟨rfl, h6⟩, h7⟩ := h5
   have e1 := h1.en_go h6
   have e2 := h2.en_go h7
   simp only [Ps.rd, e1, Bool.false_and, Bool.or_false, ite_self, ihx h1 h6, ihy h2 h7, e2, h6, h7, hg]
theorem Ps.read_eq {p : Ps} (h : p.Ok) (r : Int) (b : Bool) : p.read r b = p.rd r b := by
 induction p generalizing b with
 | leaf k s n e g =>
   by_cases hc : (!b && !g) = true
   · have hb : b = false ∧ g = false := by simpa using hc
     rw [Ps.read, if_pos hc, hb.1, Ps.rd_still h hb.2]
   · rw [Ps.read, if_neg hc, Ps.rd]
 | one k a n e g ih =>
   by_cases hc : (!b && !g) = true
   · have hb : b = false ∧ g = false := by simpa using hc
     rw [Ps.read, if_pos hc, hb.1, Ps.rd_still h hb.2]
   · rw [Ps.read, if_neg hc, Ps.rd]
     simp only [Ps.Ok] at h
     simp only [ih h.1]
 | two k x y n e g ihx ihy =>
   by_cases hc : (!b && !g) = true
   · have hb : b = false ∧ g = false := by simpa using hc
     rw [Ps.read, if_pos hc, hb.1, Ps.rd_still h hb.2]
   · rw [Ps.read, if_neg hc, Ps.rd]
     simp only [Ps.Ok] at h
     simp only [ihx h.1, ihy h.2.1]
theorem Rx.ps_ok (x : Rx) : x.ps.Ok ∧ x.ps.go = false ∧ x.ps.en = false ∧ x.ps.nu = x.nul := by
 induction x with
 | leaf k s => simp [Rx.ps, Ps.Ok, Ps.go, Ps.en, Ps.nu, Rx.nul]
 | one k a ih => exact ⟨⟨ih.1, by rw [ih.2.1]; rfl, by rw [ih.2.2.1]⟩, rfl, rfl, rfl⟩
 | two k a b iha ihb => exact ⟨⟨iha.1, ihb.1, by rw [iha.2.1, ihb.2.1]; rfl, by rw [iha.2.2.1, ihb.2.2.1]; simp⟩, rfl, rfl, rfl⟩
section
variable (tx : List Int)
def seg (i j : Nat) : List Int := (tx.take j).drop i
theorem seg_self (i : Nat) : seg tx i i = [] := by simp [seg]
theorem seg_ge {i j : Nat} (h : j ≤ i) : seg tx i j = [] := by
 unfold seg; exact List.drop_eq_nil_of_le (by rw [List.length_take]; omega)
theorem seg_len {i j : Nat} (hj : j ≤ tx.length) : (seg tx i j).length = j - i := by
 unfold seg; rw [List.length_drop, List.length_take]; omega
theorem seg_app {i j k : Nat} (h1 : i ≤ j) (h2 : j ≤ k) : seg tx i k = seg tx i j ++ seg tx j k := by
 unfold seg
 rw [← List.take_append_drop (j - i) ((tx.take k).drop i), List.drop_drop, List.take_drop, List.take_take, show i + (j - i) = j by omega, Nat.min_eq_left h2]
theorem seg_one {n : Nat} (h : n < tx.length) : seg tx n (n + 1) = [tx[n]] := by
 unfold seg
 rw [List.take_succ_eq_append_getElem h, List.drop_append_of_le_length (by rw [List.length_take]; omega), List.drop_eq_nil_of_le (by rw [List.length_take]; omega)]
 rfl
theorem seg_ne {i j : Nat} (h : i < j) (hj : j ≤ tx.length) : seg tx i j ≠ [] := fun e => by
 have := seg_len tx (i := i) hj
 rw [e] at this
 simp at this
 omega
theorem seg_cut {i k : Nat} {x y : List Int} (hik : i ≤ k) (hk : k ≤ tx.length) (h : seg tx i k = x ++ y) : ∃ j, i ≤ j ∧ j ≤ k ∧ x = seg tx i j ∧ y = seg tx j k := by
 have hl := seg_len tx (i := i) hk
 rw [h, List.length_append] at hl
 refine ⟨i + x.length, by omega, by omega, ?_⟩
 rw [seg_app tx (show i ≤ i + x.length by omega) (show i + x.length ≤ k by omega)] at h
 have := List.append_inj h (by rw [seg_len tx (by omega)]; omega)
 exact ⟨this.1.symm, this.2.symm⟩
def En (x : Rx) (n : Nat) (S : Nat → Prop) : Prop := ∃ i, i < n ∧ S i ∧ x.L (seg tx i n)
def S2 (a : Rx) (S : Nat → Prop) (j : Nat) : Prop := (S j ∧ a.nul = true) ∨ En tx a j S
def S6 (a : Rx) (S : Nat → Prop) (j : Nat) : Prop := ∃ i, i ≤ j ∧ S i ∧ Star a.L (seg tx i j)
def Inv : Rx → Ps → Nat → (Nat → Prop) → Prop
 | .leaf k s, .leaf k' s' nu en _, n, S => k = k' ∧ s = s' ∧ nu = (Rx.leaf k s).nul ∧ (en = true ↔ En tx (.leaf k s) n S)
 | .one k a, .one k' p nu en _, n, S => k = k' ∧ nu = (Rx.one k a).nul ∧ (en = true ↔ En tx (.one k a) n S) ∧ Inv a p n (if k = 8 then S else S6 tx a S)
 | .two k a b, .two k' p q nu en _, n, S => k = k' ∧ nu = (Rx.two k a b).nul ∧ (en = true ↔ En tx (.two k a b) n S) ∧ Inv a p n S ∧ Inv b q n (if k = 4 then S2 tx a S else S)
 | _, _, _, _ => False
theorem Inv.en {x : Rx} {p : Ps} {n : Nat} {S : Nat → Prop} (h : Inv tx x p n S) : p.en = true ↔ En tx x n S := by
 cases x <;> cases p <;> simp only [Inv] at h <;> first | exact h.2.2.2 | exact h.2.2.1 | exact h.2.2.1
theorem Inv.nu {x : Rx} {p : Ps} {n : Nat} {S : Nat → Prop} (h : Inv tx x p n S) : p.nu = x.nul := by
 cases x <;> cases p <;> simp only [Inv] at h <;> first | exact h.2.2.1 | exact h.2.1 | exact h.2.1
theorem en_zero (x : Rx) (S : Nat → Prop) : ¬ En tx x 0 S := fun ⟨i, h, _⟩ => by omega
theorem Rx.inv0 (x : Rx) (S : Nat → Prop) : Inv tx x x.ps 0 S := by
 induction x generalizing S with
 | leaf k s => exact ⟨rfl, rfl, rfl, by simp [en_zero]⟩
 | one k a ih => exact ⟨rfl, rfl, by simp [en_zero], ih _⟩
 | two k a b iha ihb => exact ⟨rfl, rfl, by simp [en_zero], iha _, ihb _⟩
theorem en_star {a : Rx} {n : Nat} {S : Nat → Prop} (h : En tx a n (S6 tx a S)) : ∃ i, i < n ∧ S i ∧ Star a.L (seg tx i n) := by
 obtain ⟨j, hj, ⟨i, hi, hS, h1⟩, h2⟩ := h
 exact ⟨i, by omega, hS, by rw [seg_app tx hi (Nat.le_of_lt hj)]; exact h1.snoc h2⟩
theorem star_en {a : Rx} {i n : Nat} {S : Nat → Prop} (hn : n ≤ tx.length) (hi : i < n) (hS : S i) (h : Star a.L (seg tx i n)) : En tx a n (S6 tx a S) := by
 rcases h.last with h | ⟨x, y, e, h1, h2, h3⟩
 · exact absurd h (seg_ne tx hi hn)
 · obtain ⟨j, hj1, hj2, rfl, rfl⟩ := seg_cut tx (Nat.le_of_lt hi) hn e
   have : j < n := Nat.lt_of_not_le fun hh => h3 (seg_ge tx hh)
   exact ⟨j, this, ⟨i, hj1, hS, h1⟩, h2⟩
theorem plus_star {a : Rx} {u : List Int} (hu : u ≠ []) : (∃ x y, u = x ++ y ∧ a.L x ∧ Star a.L y) ↔ Star a.L u := by
 constructor
 · rintro ⟨x, y, rfl, h1, h2⟩; exact Star.app h1 h2
 · intro h
   rcases h.first with rfl | ⟨x, y, e, h1, h2, _⟩
   · exact absurd rfl hu
   · exact ⟨x, y, e, h1, h2⟩
theorem Inv.step {x : Rx} {p : Ps} {n : Nat} {S : Nat → Prop} (h : Inv tx x p n S) (hn : n < tx.length) (b : Bool) (hb : b = true ↔ S n) : Inv tx x (p.rd tx[n] b) (n + 1) S := by
 induction x generalizing p S b with
 | leaf k s =>
   cases p <;> simp only [Inv] at h
   obtain ⟨rfl, rfl, rfl, h4⟩ := h
   simp only [Ps.rd, Inv]
   refine ⟨trivial, trivial, trivial, ?_⟩
   rename_i en go
   unfold En Rx.L
   by_cases hk : k = 1
   · simp only [if_pos hk, Bool.and_eq_true, hb]
     constructor
     · rintro ⟨h1, h2⟩
       exact ⟨n, by omega, h1, tx[n], seg_one tx hn, h2⟩
     · rintro ⟨i, hi, h1, r, e, h2⟩
       have hl := seg_len tx (i := i) (show n + 1 ≤ tx.length from hn)
       rw [e] at hl
       simp at hl
       obtain rfl : i = n := by omega
       rw [seg_one tx hn] at e
       cases e
       exact ⟨h1, h2⟩
   · simp only [if_neg hk]
     rw [h4]
     unfold En Rx.L
     simp only [if_neg hk]
     constructor
     · rintro ⟨i, hi, _, e⟩; exact absurd e (seg_ne tx hi (by omega))
     · rintro ⟨i, hi, _, e⟩; exact absurd e (seg_ne tx hi hn)
 | one k a ih =>
   cases p <;> simp only [Inv] at h
   obtain ⟨rfl, rfl, h3, h4⟩ := h
   rename_i q en go
   simp only [Ps.rd, Inv]
   by_cases h8 : k = 8
   · simp only [if_pos h8] at h4 ⊢
     have h5 := ih h4 b hb
     refine ⟨trivial, trivial, ?_, h5⟩
     rw [h5.en]
     unfold En
     constructor
     · rintro ⟨i, hi, h1, h2⟩; exact ⟨i, hi, h1, by unfold Rx.L; rw [if_pos h8]; exact .inr h2⟩
     · rintro ⟨i, hi, h1, h2⟩
       unfold Rx.L at h2
       rw [if_pos h8] at h2
       rcases h2 with h2 | h2
       · exact absurd h2 (seg_ne tx hi hn)
       · exact ⟨i, hi, h1, h2⟩
   · simp only [if_neg h8] at h4 ⊢
     have hb' : (b || q.en) = true ↔ S6 tx a S n := by
       rw [Bool.or_eq_true, hb, h4.en]
       constructor
       · rintro (h | h)
         · exact ⟨n, Nat.le_refl _, h, by rw [seg_self]; exact .nil⟩
         · obtain ⟨i, h1, h2, h3⟩ := en_star tx h
           exact ⟨i, Nat.le_of_lt h1, h2, h3⟩
       · rintro ⟨i, h1, h2, h3⟩
         by_cases he : i = n
         · exact .inl (he ▸ h2)
         · exact .inr (star_en tx (Nat.le_of_lt hn) (by omega) h2 h3)
     have h5 := ih h4 _ hb'
     refine ⟨trivial, trivial, ?_, h5⟩
     rw [h5.en]
     have key : En tx a (n + 1) (S6 tx a S) ↔ ∃ i, i < n + 1 ∧ S i ∧ Star a.L (seg tx i (n + 1)) :=
       ⟨fun h => en_star tx h, fun ⟨i, h1, h2, h3⟩ => star_en tx hn h1 h2 h3⟩
     rw [key]
     unfold En
     by_cases h7 : k = 7
     · constructor
       · rintro ⟨i, hi, h1, h2⟩; exact ⟨i, hi, h1, by unfold Rx.L; rw [if_neg h8, if_pos h7]; exact (plus_star (seg_ne tx hi hn)).2 h2⟩
       · rintro ⟨i, hi, h1, h2⟩; unfold Rx.L at h2; rw [if_neg h8, if_pos h7] at h2; exact ⟨i, hi, h1, (plus_star (seg_ne tx hi hn)).1 h2⟩
     · constructor
       · rintro ⟨i, hi, h1, h2⟩; exact ⟨i, hi, h1, by unfold Rx.L; rw [if_neg h8, if_neg h7]; exact h2⟩
       · rintro ⟨i, hi, h1, h2⟩; unfold Rx.L at h2; rw [if_neg h8, if_neg h7] at h2; exact ⟨i, hi, h1, h2⟩
 | two k a b' iha ihb =>
   cases p <;> simp only [Inv] at h
   obtain ⟨rfl, rfl, h3, h4, h5⟩ := h
   rename_i q1 q2 en go
   simp only [Ps.rd, Inv]
   have g4 := iha h4 b hb
   by_cases hk : k = 4
   · simp only [if_pos hk] at h5 ⊢
     have hf : (b && q1.nu || q1.en) = true ↔ S2 tx a S n := by
       rw [Bool.or_eq_true, Bool.and_eq_true, hb, h4.en, h4.nu]; rfl
     have g5 := ihb h5 _ hf
     refine ⟨trivial, trivial, ?_, g4, g5⟩
     rw [Bool.or_eq_true, Bool.and_eq_true, g5.en, g4.en, g5.nu]
     constructor
     · rintro (⟨j, hj, h1 | ⟨i, hi, h1, h1'⟩, h2⟩ | ⟨⟨i, hi, h1, h1'⟩, h2⟩)
       · exact ⟨j, hj, h1.1, by unfold Rx.L; rw [if_pos hk]; exact ⟨[], _, rfl, (Rx.nul_iff a).1 h1.2, h2⟩⟩
       · exact ⟨i, by omega, h1, by unfold Rx.L; rw [if_pos hk]; exact ⟨_, _, seg_app tx (Nat.le_of_lt hi) (Nat.le_of_lt hj), h1', h2⟩⟩
       · exact ⟨i, hi, h1, by unfold Rx.L; rw [if_pos hk]; exact ⟨_, [], by simp, h1', (Rx.nul_iff b').1 h2⟩⟩
     · rintro ⟨i, hi, h1, h2⟩
       unfold Rx.L at h2
       rw [if_pos hk] at h2
       obtain ⟨x, y, e, hx, hy⟩ := h2
       obtain ⟨j, hj1, hj2, rfl, rfl⟩ := seg_cut tx (Nat.le_of_lt hi) hn e
       by_cases hj : j = n + 1
       · subst hj
         rw [seg_self] at hy
         exact .inr ⟨⟨i, hi, h1, hx⟩, (Rx.nul_iff b').2 hy⟩
       · refine .inl ⟨j, by omega, ?_, hy⟩
         by_cases hij : i = j
         · subst hij
           rw [seg_self] at hx
           exact .inl ⟨h1, (Rx.nul_iff a).2 hx⟩
         · exact .inr ⟨i, by omega, h1, hx⟩
   · simp only [if_neg hk] at h5 ⊢
     have g5 := ihb h5 b hb
     refine ⟨trivial, trivial, ?_, g4, g5⟩
     rw [Bool.or_eq_true, g5.en, g4.en]
     constructor
     · rintro (⟨i, hi, h1, h2⟩ | ⟨i, hi, h1, h2⟩)
       · exact ⟨i, hi, h1, by unfold Rx.L; rw [if_neg hk]; exact .inl h2⟩
       · exact ⟨i, hi, h1, by unfold Rx.L; rw [if_neg hk]; exact .inr h2⟩
     · rintro ⟨i, hi, h1, h2⟩
       unfold Rx.L at h2
       rw [if_neg hk] at h2
       rcases h2 with h2 | h2
       · exact .inl ⟨i, hi, h1, h2⟩
       · exact .inr ⟨i, hi, h1, h2⟩
def run (p : Ps) : Nat → Ps
 | 0 => p
 | n + 1 => (run p n).rd (tx.getD n 0) (decide (n = 0))
theorem run_inv (x : Rx) (n : Nat) (hn : n ≤ tx.length) : Inv tx x (run tx x.ps n) n (fun j => j = 0) := by
 induction n with
 | zero => exact Rx.inv0 tx x _
 | succ n ih =>
   have h := (ih (by omega)).step tx hn (decide (n = 0)) (by simp)
   rw [run, List.getD_eq_getElem?_getD, List.getElem?_eq_getElem hn]
   exact h
theorem run_en (x : Rx) (n : Nat) (hn : n ≤ tx.length) (h0 : 0 < n) : (run tx x.ps n).en = true ↔ x.L (tx.take n) := by
 rw [(run_inv tx x n hn).en]
 constructor
 · rintro ⟨i, _, rfl, h⟩; simpa [seg] using h
 · intro h; exact ⟨0, h0, rfl, by simpa [seg] using h⟩
theorem run_ok (x : Rx) (n : Nat) : (run tx x.ps n).Ok := by
 cases n with
 | zero => exact (Rx.ps_ok x).1
 | succ n => exact Ps.rd_ok _ _ _
theorem run_dead (x : Rx) (n m : Nat) (h0 : 0 < n) (hm : n ≤ m) (hg : (run tx x.ps n).go = false) : run tx x.ps m = run tx x.ps n := by
 induction m with
 | zero => omega
 | succ m ih =>
   by_cases he : n = m + 1
   · rw [he]
   · rw [run, ih (by omega), show decide (m = 0) = false by simp; omega]
     exact Ps.rd_still (run_ok tx x n) hg _
end
end E
theorem inS_eq (s : List (Int × Int)) (r : Int) : E.inS s r = U.S.hB s r := rfl
end Go.Proofs.YtemanednddhfaaaGreatDoor
namespace Go.Proofs.YtemanednddhfaaaGreatDoor
open Go.RowKit
attribute [local go_sem] Oper.semAt_some
namespace Rcl
def nowB (ops : Array Oper) (a : Act) (l : List (Nat × Value)) (o : Oper) : Bool :=
 match o.guard with
 | none => false
 | some (j, want) => match (ops[j]?).bind (·.dst) with
   | none => false
   | some d => Nat.blt d a.tmps.size && (match Reg.look a l d with
     | .bool b => b != want
     | _ => true)
theorem unwanted_of (ops : Array Oper) (a : Act) (l : List (Nat × Value)) (o : Oper) (hb : Reg.inB a l = true) (h : nowB ops a l o = true) : Region.wanted o (yielded ops (Reg.ov a l).tmps) = false := by
 unfold nowB at h
 unfold Region.wanted
 split at h
 · cases h
 · rename_i j want hg
   rw [hg]
   simp only
   split at h
   · cases h
   · rename_i d hd
     simp only [Bool.and_eq_true] at h
     have hlt : d < (Reg.ov a l).tmps.size := by rw [Reg.ov_size]; have := h.1; rw [Nat.blt_eq] at this; exact this
     have hlk := Reg.ov_look a d l hb
     unfold yielded
     rw [hd, Option.bind_some]
     have e : (Reg.ov a l).tmps[d]? = some (Reg.look a l d) := by
       rw [← hlk, Array.getElem?_eq_getElem hlt]
       simp [Array.getD, hlt]
     rw [e]
     have h2 := h.2
     generalize Reg.look a l d = v at *
     cases v <;> simp_all
end Rcl
theorem Rcl.ix {P : Program} {w : World} {ρ : Operand → Value} {o : Oper} {t : TypeId} {x y : Operand} {b off len cap k s : Nat} {q : IntKind} (hop : o.op = .indexAddr t x y) (hx : ρ x = .slice (some ⟨b, off, none⟩) len cap) (hy : ρ y = .int q (k : Int)) (hk : k < len)
   (ht : P.underlying t = some (.slice (P.elem t))) (hs : (sizeOf (P.elem t)).run P w = .ok s w) : (execOp ρ o).run P w = .ok (.value (.pointer (some ⟨b, off + k * s, none⟩))) w := by
 obtain ⟨dst, op, type, pos, after, guard⟩ := o
 simp only at hop
 subst hop
 have h1 : 0 ≤ (k : Int) ∧ (k : Int) < (len : Int) := by omega
 simp only [execOp, hx, hy, Sem.run_bind]
 rw [run_indexAt_slice w t ⟨b, off, none⟩ len cap q (k : Int) ht, if_pos h1, hs]
 simp only [Result.andThen, Int.toNat_natCast, Addr.add_mid, Sem.run_pure]
theorem Rcl.lss {P : Program} {w : World} {ρ : Operand → Value} {o : Oper} {t t' : TypeId} {x y : Operand} {k : IntKind} {m n : Int} {b : Bool} (hop : o.op = .binOp .lss t x y t') (hx : ρ x = .int k m) (hy : ρ y = .int k n) (h : decide (m < n) = b) :
   (execOp ρ o).run P w = .ok (.value (.bool b)) w := by
 obtain ⟨dst, op, type, pos, after, guard⟩ := o
 simp only at hop
 subst hop
 subst h
 simp [execOp, hx, hy, eqGuard, binOp, Op.intCmp]
section
variable {w : World} {ρ : Operand → Value} {o : Oper}
theorem Rcl.mv {P : Program} {x : Operand} {v : Value} (hop : o.op = .move x) (hx : ρ x = v) : (execOp ρ o).run P w = .ok (.value v) w := by
 obtain ⟨dst, op, type, pos, after, guard⟩ := o
 simp only at hop
 subst hop
 simp [execOp, hx]
theorem Rcl.nc {P : Program} {x : Operand} {a : Addr} (hop : o.op = .nilCheck x) (hx : ρ x = .pointer (some a)) : (execOp ρ o).run P w = .ok (.value (.pointer (some a))) w := by
 obtain ⟨dst, op, type, pos, after, guard⟩ := o
 simp only at hop
 subst hop
 simp [execOp, hx, go_sem]
end
theorem Rcl.ld1 {P : Program} {w : World} {ρ : Operand → Value} {o : Oper} {ty : TypeId} {x : Operand} {a : Addr} {v : Value} (hop : o.op = .load ty x) (hx : ρ x = .pointer (some a)) (hc : w.cell? a = some v) (hagg : (isAgg ty).run P w = .ok false w) : (execOp ρ o).run P w = .ok (.value v) w := by
 obtain ⟨dst, op, type, pos, after, guard⟩ := o
 simp only at hop
 subst hop
 simp [execOp, hx, Instr.loadAt, Instr.sureAddr, loadVar, Sem.run_bind, hagg, hc, Result.andThen]
theorem Rcl.faP {w : World} {ρ : Operand → Value} {o : Oper} {x : Operand} {b off i : Nat} (hop : o.op = .fieldAddr 147 x i) (hx : ρ x = .pointer (some ⟨b, off, none⟩)) (hi : i = 2 ∨ i = 4) : (execOp ρ o).run Tryz.prog w = .ok (.value (.pointer (some ⟨b, off + i, none⟩))) w := by
 obtain ⟨dst, op, type, pos, after, guard⟩ := o
 simp only at hop
 subst hop
 rcases hi with rfl | rfl <;> simp [execOp, hx, go_sem]
theorem Rcl.pk {w : World} {ρ : Operand → Value} {o : Oper} {c x y : Operand} {b : Bool} {v : Value} (hop : o.op = .pick c x y) (hc : ρ c = .bool b) (hx : (if b then ρ x else ρ y) = v) : (execOp ρ o).run Tryz.prog w = .ok (.value v) w := by
 obtain ⟨dst, op, type, pos, after, guard⟩ := o
 simp only at hop
 subst hop
 subst hx
 simp only [execOp, hc]
 cases b <;> rfl
namespace Rcl
def anyS (P : Program) (ops : Array Oper) (Q : Exit → Act → World → Prop) (s : Nat) (T : World → Prop) : Nat → Array Bool → Act → World → Prop
 | 0, listed, a, w => Region.ready .any ops listed = [] ∧ Q .normal a w
 | fuel + 1, listed, a, w =>
   (Region.ready .any ops listed = [] → Q .normal a w) ∧
   ∀ i ∈ Region.ready .any ops listed, wpOp P ops Q i (fun a' w' => ((listed.setIfInBounds i true).getD s true = true ∨ T w') ∧ anyS P ops Q s T fuel (listed.setIfInBounds i true) a' w') a w
theorem any_of {P : Program} {ops : Array Oper} {Q : Exit → Act → World → Prop} {s : Nat} {T : World → Prop} : ∀ (fuel : Nat) (listed : Array Bool) (a : Act) (w : World), anyS P ops Q s T fuel listed a w → wpAny P .any ops Q fuel listed a w
 | 0, _, _, _, h => h
 | fuel + 1, _, _, _, h => ⟨h.1, fun i hi => wpOp_mono (fun a' w' h' => any_of fuel _ a' w' h'.2) (h.2 i hi)⟩
def Cl (ops : Array Oper) (listed : Array Bool) : Prop := ∀ (j : Nat) (oj : Oper), ops[j]? = some oj → listed.getD j true = true → ∀ e ∈ oj.after, Region.binds .any e = true → listed.getD e.on true = true
def anc (ops : Array Oper) : Nat → Nat → Nat → Bool
 | 0, _, _ => false
 | f + 1, s, i => match ops[s]? with
   | some os => os.after.toList.any fun e => Region.binds .any e && (Nat.beq e.on i || anc ops f e.on i)
   | none => false
theorem anc_listed {ops : Array Oper} {listed : Array Bool} (hc : Cl ops listed) : ∀ (f s i : Nat) (os : Oper), ops[s]? = some os → anc ops f s i = true → (∀ e ∈ os.after, Region.binds .any e = true → listed.getD e.on true = true) → listed.getD i true = true
 | 0, s, i, os, _, h, _ => by simp [anc] at h
 | f + 1, s, i, os, ho, h, hl => by
   rw [anc, ho] at h
   obtain ⟨e, he, h2⟩ := List.any_eq_true.1 h
   simp only [Bool.and_eq_true, Bool.or_eq_true] at h2
   have he' : e ∈ os.after := by simpa using he
   have h3 := hl e he' h2.1
   rcases h2.2 with h4 | h4
   · rw [← Nat.eq_of_beq_eq_true h4]; exact h3
   · cases hj : ops[e.on]? with
     | none =>
       cases f with
       | zero => simp [anc] at h4
       | succ f => rw [anc, hj] at h4; cases h4
     | some oj => exact anc_listed hc f e.on i oj hj h4 (hc e.on oj hj h3)
theorem cl_set {ops : Array Oper} {listed : Array Bool} {j : Nat} (hc : Cl ops listed) (hj : j ∈ Region.ready .any ops listed) : Cl ops (listed.setIfInBounds j true) := by
 have up : ∀ k, listed.getD k true = true → (listed.setIfInBounds j true).getD k true = true := by
   intro k hk
   by_cases hjk : j = k
   · subst hjk
     rw [Array.getD_eq_getD_getElem?, Array.getElem?_setIfInBounds]
     simp only [if_true]
     split <;> simp
   · rw [getD_set_ne true hjk]; exact hk
 intro k ok hk hl e he hb
 by_cases hjk : j = k
 · subst hjk
   obtain ⟨_, oj, hoj, hall⟩ := mem_ready.1 hj
   rw [hk] at hoj
   cases hoj
   have h2 := hall e he hb
   refine up _ ?_
   rcases Nat.lt_or_ge e.on listed.size with h' | h'
   · simp [h'] at h2 ⊢
     exact h2
   · simp [Array.getElem?_eq_none h'] at h2 ⊢
 · rw [getD_set_ne true hjk] at hl
   exact up _ (hc k ok hk hl e he hb)
theorem first {P : Program} {ops : Array Oper} {Q : Exit → Act → World → Prop} {s : Nat} {T : World → Prop} {i : Nat} {oi : Oper} {v : Value} (hi : ops[i]? = some oi) (hsel : ∀ (j : Nat) (o : Oper) cs b, ops[j]? = some o → o.op ≠ .select cs b)
   (hQ : ∀ c a w, Q (.panic c) (a.put oi.dst v) w → Q (.panic c) a w) (his : s ≠ i) (f : Nat) (hwait : anc ops f s i = true) :
   ∀ (fuel : Nat) (listed : Array Bool) (a : Act) (w : World), Cl ops listed →
     (∀ j oj, ops[j]? = some oj → j ≠ i → listed.getD j true = false → (∀ e ∈ oj.after, Region.binds .any e = true → e.on ≠ i) → oi.apart ops oj = true) →
     i ∈ Region.ready .any ops listed → YieldsIf P ops T oi v a → T w → listed.getD s true = false →
     anyS P ops Q s T fuel (listed.setIfInBounds i true) (a.put oi.dst v) w → anyS P ops Q s T (fuel + 1) listed a w := by
 intro fuel
 induction fuel with
 | zero =>
   intro listed a w _ _ hr hy hT hs H
   refine ⟨fun h => (by rw [h] at hr; cases hr), fun j hj => ?_⟩
   by_cases hji : j = i
   · subst hji
     exact hy.wpOp hi hT ⟨.inr hT, H⟩
   · have := ready_mono hj hji
     rw [H.1] at this
     cases this
 | succ fuel ih =>
   intro listed a w hcl hfree hr hy hT hs H
   refine ⟨fun h => (by rw [h] at hr; cases hr), fun j hj => ?_⟩
   by_cases hji : j = i
   · subst hji
     exact hy.wpOp hi hT ⟨.inr hT, H⟩
   · have h1 := H.2 j (ready_mono hj hji)
     obtain ⟨hjun, oj, hoj, hall⟩ := mem_ready.1 hj
     have hun0 : listed.getD i true = true → False := fun h2 => by
       have h0 := (mem_ready.1 hr).1
       rcases Nat.lt_or_ge i listed.size with h' | h'
       · simp [h'] at h0 h2
         rw [h0] at h2
         cases h2
       · simp [Array.getElem?_eq_none h'] at h0
     have hall' : ∀ e ∈ oj.after, Region.binds .any e = true → listed.getD e.on true = true := fun e he hb => by
       have h2 := hall e he hb
       rcases Nat.lt_or_ge e.on listed.size with h' | h'
       · simp [h'] at h2 ⊢
         exact h2
       · simp [Array.getElem?_eq_none h'] at h2 ⊢
     have hnot : ∀ e ∈ oj.after, Region.binds .any e = true → e.on ≠ i := fun e he hb heq => by
       have h2 := hall' e he hb
       rw [heq] at h2
       exact hun0 h2
     have hjs : j ≠ s := by
       rintro rfl
       exact hun0 (anc_listed hcl f j i oj hoj hwait hall')
     have h2 := wpOp_putIf hoj (hfree j oj hoj hji hjun hnot) (fun cs b => hsel i oi cs b hi) (fun cs b => hsel j oj cs b hoj) hQ hy h1
     have hs2 : (listed.setIfInBounds j true).getD s true = false := by rw [getD_set_ne true hjs]; exact hs
     have hfree' : ∀ k ok, ops[k]? = some ok → k ≠ i → (listed.setIfInBounds j true).getD k true = false →
         (∀ e ∈ ok.after, Region.binds .any e = true → e.on ≠ i) → oi.apart ops ok = true := fun k ok hk hki hun hno => by
       refine hfree k ok hk hki ?_ hno
       by_cases hjk : j = k
       · subst hjk; exact hjun
       · rw [getD_set_ne true hjk] at hun; exact hun
     refine wpOp_mono (fun a' w' h3 => ?_) h2
     have hT' : T w' := by
       rcases h3.2.1 with h4 | h4
       · rw [Array.setIfInBounds_comm _ _ (Ne.symm hji), getD_set_ne true (Ne.symm his), hs2] at h4
         cases h4
       · exact h4
     refine ⟨.inr hT', ih (listed.setIfInBounds j true) a' w' (cl_set hcl hj) hfree' (ready_mono hr (Ne.symm hji)) h3.1 hT' hs2 ?_⟩
     rw [Array.setIfInBounds_comm _ _ hji]
     exact h3.2.2
def G2 (P : Program) (ops : Array Oper) (Q : Exit → Act → World → Prop) (a : Act) (s : Nat) (T : World → Prop) (fuel : Nat) (ks : List Nat) (l : List (Nat × Value)) (w : World) : Prop :=
 anyS P ops Q s T fuel (Reg.lst ops.size ks) (Reg.ov a l) w
def clB (ops : Array Oper) (listed : Array Bool) : Bool := (List.range ops.size).all fun j => match ops[j]? with
 | some oj => !(listed.getD j true) || oj.after.toList.all fun e => !(Region.binds .any e) || listed.getD e.on true
 | none => true
theorem clB_spec {ops : Array Oper} {listed : Array Bool} (h : clB ops listed = true) : Cl ops listed := by
 intro j oj hj hl e he hb
 have hlt : j < ops.size := (Array.getElem?_eq_some_iff.1 hj).1
 have := List.all_eq_true.1 h j (List.mem_range.2 hlt)
 rw [hj] at this
 simp only [hl, Bool.not_true, Bool.false_or] at this
 have := List.all_eq_true.1 this e (by simpa using he)
 simpa [hb] using this
section
variable {P : Program} {ops : Array Oper} {Q : Exit → Act → World → Prop} {a : Act} {s : Nat} {T : World → Prop} {fuel : Nat} {ks : List Nat} {l : List (Nat × Value)} {w : World}
theorem start {id : Nat} (s : Nat) (T : World → Prop) (hm : P.follows .mixedOrders = true) (h : G2 P ops Q a s T ops.size [] [] w.drew) : (Code.region id ops true).wp P Q a w :=
 wp_region_any hm (any_of _ _ _ _ h)
theorem take (hQ : ∀ c (a : Act) (d : Nat) v w, Q (.panic c) (a.put (some d) v) w → Q (.panic c) a w) (i : Nat) (o : Oper) (d : Nat) (v : Value) (hi : ops[i]? = some o)
   (hc : (Region.noSelect ops && (Region.free .any ops (Reg.lst ops.size ks) i && ((Region.ready .any ops (Reg.lst ops.size ks)).contains i && (!(Nat.beq s i) && (anc ops ops.size s i && (clB ops (Reg.lst ops.size ks) && !((Reg.lst ops.size ks).getD s true))))))) = true) (hd : o.dst = some d) (hb : Reg.inB a l = true) (hw : Reg.wantB ops a l o = true)
   (hT : T w) (hy : ∀ w', T w' → (execOp (Reg.ev a l) o).run P w' = .ok (.value v) w') (h : G2 P ops Q a s T fuel (i :: ks) ((d, v) :: l) w) : G2 P ops Q a s T (fuel + 1) ks l w := by
 simp only [Bool.and_eq_true, Bool.not_eq_true'] at hc
 obtain ⟨hs, hf, hr, h1, h2, h4, h3⟩ := hc
 refine first (v := v) hi (Region.noSelect_spec hs) (fun c a' w' hh => hQ c a' d v w' (by rw [hd] at hh; exact hh)) (fun e => by rw [e, Nat.beq_refl] at h1; cases h1) _ h2 fuel _ _ w (clB_spec h4) (Region.free_spec hi hf) (by simpa using hr) (.inl ⟨Reg.wanted_of ops a l o hb hw, fun w' hw' => ?_⟩) hT h3 ?_
 · rw [Reg.ov_eval a l hb]; exact hy w' hw'
 · rw [hd]; exact h
theorem skip (hQ : ∀ c (a : Act) (d : Nat) v w, Q (.panic c) (a.put (some d) v) w → Q (.panic c) a w) (i : Nat) (o : Oper) (d : Nat) (hi : ops[i]? = some o)
   (hc : (Region.noSelect ops && (Region.free .any ops (Reg.lst ops.size ks) i && ((Region.ready .any ops (Reg.lst ops.size ks)).contains i && (!(Nat.beq s i) && (anc ops ops.size s i && (clB ops (Reg.lst ops.size ks) && !((Reg.lst ops.size ks).getD s true))))))) = true) (hd : o.dst = some d) (hb : Reg.inB a l = true) (hw : Rcl.nowB ops a l o = true)
   (hT : T w) (h : G2 P ops Q a s T fuel (i :: ks) ((d, undef) :: l) w) : G2 P ops Q a s T (fuel + 1) ks l w := by
 simp only [Bool.and_eq_true, Bool.not_eq_true'] at hc
 obtain ⟨hs, hf, hr, h1, h2, h4, h3⟩ := hc
 refine first (v := undef) hi (Region.noSelect_spec hs) (fun c a' w' hh => hQ c a' d undef w' (by rw [hd] at hh; exact hh)) (fun e => by rw [e, Nat.beq_refl] at h1; cases h1) _ h2 fuel _ _ w (clB_spec h4) (Region.free_spec hi hf) (by simpa using hr) (.inr ⟨Rcl.unwanted_of ops a l o hb hw, rfl⟩) hT h3 ?_
 rw [hd]; exact h
theorem call (o : Oper) (d f : Nat) (xs : Array Operand) (ats : Array TypeId) (vs : Array Value) (hi : ops[s]? = some o) (hr : Region.ready .any ops (Reg.lst ops.size ks) = [s]) (hd : o.dst = some d) (hb : Reg.inB a l = true) (hw : Reg.wantB ops a l o = true)
   (hop : o.op = .call { callee := .value (.func f), args := xs, argTypes := ats }) (hvs : #[] ++ xs.map (Reg.ev a l) ++ #[] = vs) (hent : (callFunc f vs).run P w = .ok (.enter f vs) w)
   {R : Ending → World → Prop} (hc : Calls P f vs w R) (hR : ∀ e w', R e w' → ∃ v, e = .returned v ∧ G2 P ops Q a s T fuel (s :: ks) ((d, v) :: l) w') : G2 P ops Q a s T (fuel + 1) ks l w := by
 refine ⟨fun h0 => (by rw [hr] at h0; cases h0), ?_⟩
 rw [hr]
 intro j hj
 obtain rfl : j = s := by simpa using hj
 unfold wpOp
 simp only [hi]
 rw [if_pos (Reg.wanted_of ops a l o hb hw)]
 refine .inl ?_
 unfold Oper.wp
 have he : (execOp (Reg.ev a l) o).run P w = .ok (.enter f vs) w := by
   obtain ⟨dst, op, type, pos, after, guard⟩ := o
   simp only at hop
   subst hop
   show (callFunc f (#[] ++ xs.map (Reg.ev a l) ++ #[])).run P w = _
   rw [hvs]
   exact hent
 rw [Reg.ov_eval a l hb, he]
 simp only [Oper.upon]
 refine hc.mono fun e w' hr' => ?_
 obtain ⟨v, rfl, hg⟩ := hR e w' hr'
 simp only [hd]
 refine ⟨.inl ?_, hg⟩
 rw [Array.getD_eq_getD_getElem?, Array.getElem?_setIfInBounds]
 simp only [if_true]
 split <;> simp
theorem done (hr : Region.ready .any ops (Reg.lst ops.size ks) = []) (h : Q .normal (Reg.ov a l) w) : G2 P ops Q a s T fuel ks l w := by
 unfold G2
 cases fuel with
 | zero => exact ⟨hr, h⟩
 | succ f => exact ⟨fun _ => h, by rw [hr]; simp⟩
end
end Rcl
end Go.Proofs.YtemanednddhfaaaGreatDoor
namespace Go.Proofs.YtemanednddhfaaaGreatDoor
open Go.RowKit
attribute [local go_sem] Oper.semAt_some
open E (Ps Rx)
structure C6 (W : World) (b o : Nat) (k : Int) (sv kv : Value) (nu en go : Bool) : Prop where
 c0 : W.cell? ⟨b, o, none⟩ = some (.int .i64 k)
 c1 : W.cell? ⟨b, o + 1, none⟩ = some sv
 c2 : W.cell? ⟨b, o + 2, none⟩ = some kv
 c3 : W.cell? ⟨b, o + 3, none⟩ = some (.bool nu)
 c4 : W.cell? ⟨b, o + 4, none⟩ = some (.bool en)
 c5 : W.cell? ⟨b, o + 5, none⟩ = some (.bool go)
def Row (W : World) (b : Nat) : Prop := ∃ cs, W.heap[b]? = some (.cells cs 147 (0, 0))
theorem Row.frz {W : World} {b : Nat} (h : Row W b) (j : Nat) : W.frozen? ⟨b, j, none⟩ = false := by
 obtain ⟨cs, h⟩ := h
 simp [World.frozen?, h]
theorem Row.lt {W : World} {b : Nat} (h : Row W b) : b < W.heap.size := by
 obtain ⟨cs, h⟩ := h
 exact (Array.getElem?_eq_some_iff.1 h).1
theorem Row.set {W : World} {b : Nat} (h : Row W b) (p : Addr) (u : Value) : Row (W.setCell p u) b := by
 obtain ⟨cs, h⟩ := h
 by_cases hp : b = p.block
 · subst hp
   exact ⟨_, by simp [World.setCell, Array.getElem?_modify, h]; rfl⟩
 · exact ⟨cs, (Below.heap_setCell _ _ _ _ hp).trans h⟩
theorem cell_set_same {W : World} {b j : Nat} {u v : Value} (h : W.cell? ⟨b, j, none⟩ = some u) : (W.setCell ⟨b, j, none⟩ v).cell? ⟨b, j, none⟩ = some v := by
 simp only [World.cell?] at h ⊢
 cases hb : W.heap[b]? with
 | none => rw [hb] at h; simp at h
 | some o =>
   rw [hb] at h
   cases o with
   | cells cs t f =>
     have hj : j < cs.size := by
       simp only at h
       exact (Array.getElem?_eq_some_iff.1 h).1
     simp [World.setCell, Array.getElem?_modify, hb, hj]
   | _ => simp at h
theorem cell_set_other {W : World} {b j b' j' : Nat} {v : Value} (h : b ≠ b' ∨ j ≠ j') : (W.setCell ⟨b, j, none⟩ v).cell? ⟨b', j', none⟩ = W.cell? ⟨b', j', none⟩ := by
 by_cases hb : b' = b
 · subst hb
   have hj : j ≠ j' := h.resolve_left (by simp)
   simp only [World.cell?, World.setCell, Array.getElem?_modify]
   cases W.heap[b']? with
   | none => simp
   | some o =>
     cases o with
     | cells cs t f => simp [hj]
     | _ => simp
 · have := Below.heap_setCell W ⟨b, j, none⟩ v b' hb
   simp only [World.cell?, this]
def PR (w0 W : World) : Ps → Nat → Nat → Nat → Nat → Prop
 | .leaf k s nu en go, b, o, _, _ => (k = 1 ∨ k = 3) ∧ s.length ≤ 1000000 ∧ ∃ sp sc kp kc, C6 W b o k (.slice sp s.length sc) (.slice kp 0 kc) nu en go ∧ U.RdR w0 sp s
 | .one k a nu en go, b, o, lo, hi => (k = 6 ∨ k = 7 ∨ k = 8) ∧ ∃ sv g kc, C6 W b o k sv (.slice (some ⟨g, 0, none⟩) 1 kc) nu en go ∧ lo ≤ g ∧ g < hi ∧ Row W g ∧ PR w0 W a g 0 lo g
 | .two k x y nu en go, b, o, lo, hi => (k = 4 ∨ k = 5) ∧ ∃ sv g kc l1 h1 l2 h2, C6 W b o k sv (.slice (some ⟨g, 0, none⟩) 2 kc) nu en go ∧ lo ≤ g ∧ g < hi ∧ Row W g ∧ PR w0 W x g 0 l1 h1 ∧ PR w0 W y g 6 l2 h2 ∧ (lo ≤ l1 ∧ h1 ≤ hi ∧ (g < l1 ∨ h1 ≤ g)) ∧ (lo ≤ l2 ∧ h2 ≤ hi ∧ (g < l2 ∨ h2 ≤ g)) ∧ (h1 ≤ l2 ∨ h2 ≤ l1)
theorem C6.keep {W W' : World} {b o : Nat} {k : Int} {sv kv : Value} {nu en go : Bool} (h : C6 W b o k sv kv nu en go) (hc : ∀ j, j < 6 → W'.cell? ⟨b, o + j, none⟩ = W.cell? ⟨b, o + j, none⟩) : C6 W' b o k sv kv nu en go :=
 ⟨(hc 0 (by omega)).trans h.c0, (hc 1 (by omega)).trans h.c1, (hc 2 (by omega)).trans h.c2, (hc 3 (by omega)).trans h.c3, (hc 4 (by omega)).trans h.c4, (hc 5 (by omega)).trans h.c5⟩
theorem cell_blk {W W' : World} {b : Nat} (h : W'.heap[b]? = W.heap[b]?) (j : Nat) : W'.cell? ⟨b, j, none⟩ = W.cell? ⟨b, j, none⟩ := by simp only [World.cell?, h]
theorem PR.keep {w0 W W' : World} : ∀ {p : Ps} {b o lo hi : Nat}, PR w0 W p b o lo hi → (∀ j, j < 6 → W'.cell? ⟨b, o + j, none⟩ = W.cell? ⟨b, o + j, none⟩) → (∀ k, lo ≤ k → k < hi → W'.heap[k]? = W.heap[k]?) → PR w0 W' p b o lo hi
 | .leaf k s nu en go, b, o, lo, hi, h, hc, hb => by
   unfold PR at h ⊢
   obtain ⟨h1, h2, sp, sc, kp, kc, h3, h4⟩ := h
   exact ⟨h1, h2, sp, sc, kp, kc, h3.keep hc, h4⟩
 | .one k a nu en go, b, o, lo, hi, h, hc, hb => by
   unfold PR at h ⊢
   obtain ⟨h1, sv, g, kc, h3, h4, h5, h6, h7⟩ := h
   have hg := hb g h4 h5
   refine ⟨h1, sv, g, kc, h3.keep hc, h4, h5, ?_, PR.keep h7 (fun j _ => cell_blk hg _) (fun k hk1 hk2 => hb k hk1 (by omega))⟩
   obtain ⟨cs, h6⟩ := h6
   exact ⟨cs, hg.trans h6⟩
 | .two k x y nu en go, b, o, lo, hi, h, hc, hb => by
   unfold PR at h ⊢
   obtain ⟨h1, sv, g, kc, l1, h1', l2, h2', h3, h4, h5, h6, h7, h8, h9, h10, h11⟩ := h
   have hg := hb g h4 h5
   refine ⟨h1, sv, g, kc, l1, h1', l2, h2', h3.keep hc, h4, h5, ?_, PR.keep h7 (fun j _ => cell_blk hg _) (fun k hk1 hk2 => hb k (by omega) (by omega)), PR.keep h8 (fun j _ => cell_blk hg _) (fun k hk1 hk2 => hb k (by omega) (by omega)), h9, h10, h11⟩
   obtain ⟨cs, h6⟩ := h6
   exact ⟨cs, hg.trans h6⟩
structure Kr (b o lo hi : Nat) (W W' : World) : Prop where
 os : W'.os = W.os
 tape : W'.tape = W.tape
 output : W'.output = W.output
 size : W.heap.size ≤ W'.heap.size
 blk : ∀ k, k < W.heap.size → k ≠ b → (k < lo ∨ hi ≤ k) → W'.heap[k]? = W.heap[k]?
 cell : ∀ j, j ≠ o + 4 → j ≠ o + 5 → W'.cell? ⟨b, j, none⟩ = W.cell? ⟨b, j, none⟩
 row : ∀ k, Row W k → Row W' k
theorem Kr.refl (b o lo hi : Nat) (W : World) : Kr b o lo hi W W := ⟨rfl, rfl, rfl, Nat.le_refl _, fun _ _ _ _ => rfl, fun _ _ _ => rfl, fun _ h => h⟩
theorem Kr.trans {b o lo hi : Nat} {A B C : World} (h : Kr b o lo hi A B) (k : Kr b o lo hi B C) : Kr b o lo hi A C :=
 ⟨k.os.trans h.os, k.tape.trans h.tape, k.output.trans h.output, Nat.le_trans h.size k.size, fun i hi h1 h2 => (k.blk i (Nat.lt_of_lt_of_le hi h.size) h1 h2).trans (h.blk i hi h1 h2), fun j h1 h2 => (k.cell j h1 h2).trans (h.cell j h1 h2), fun i hr => k.row i (h.row i hr)⟩
theorem Kr.of {b o lo hi : Nat} {A B : World} (h : Below A.heap.size A B) (hb : b < A.heap.size) : Kr b o lo hi A B :=
 ⟨h.os, h.tape, h.output, h.size, fun i hi _ _ => h.block i hi, fun j _ _ => cell_blk (h.block b hb) j, fun i ⟨cs, hr⟩ => ⟨cs, (h.block i (Array.getElem?_eq_some_iff.1 hr).1).trans hr⟩⟩
theorem Kr.set {b o lo hi : Nat} {A B : World} (h : Kr b o lo hi A B) {j : Nat} (hj : j = o + 4 ∨ j = o + 5) (u : Value) : Kr b o lo hi A (B.setCell ⟨b, j, none⟩ u) :=
 h.trans ⟨rfl, rfl, rfl, by simp [World.setCell], fun i _ h1 _ => Below.heap_setCell _ _ _ _ h1, fun i h1 h2 => cell_set_other (.inr (by omega)), fun i hr => hr.set _ _⟩
theorem Kr.up {b o lo hi g o' l h : Nat} {A B : World} (k : Kr g o' l h A B) (hg : lo ≤ g ∧ g < hi) (hl : lo ≤ l) (hh : h ≤ hi) (hb : b < lo ∨ hi ≤ b) (hbs : b < A.heap.size) : Kr b o lo hi A B :=
 ⟨k.os, k.tape, k.output, k.size, fun i h1 _ h3 => k.blk i h1 (by omega) (by omega), fun j _ _ => cell_blk (k.blk b hbs (by omega) (by omega)) j, k.row⟩
theorem Kr.below {b o lo hi n : Nat} {w A B : World} (k : Kr b o lo hi A B) (h : Below n w A) (hb : n ≤ b) (hl : n ≤ lo) (hn : n ≤ A.heap.size) : Below n w B :=
 h.trans ⟨k.os, k.tape, k.output, k.size, fun i hi => k.blk i (by omega) (by omega) (by omega)⟩
theorem PR.other {w0 W W' : World} {p : Ps} {b o lo hi b' o' lo' hi' : Nat} (h : PR w0 W p b o lo hi) (k : Kr b' o' lo' hi' W W') (hb : b < W.heap.size) (hh : hi ≤ W.heap.size) (h1 : b < lo' ∨ hi' ≤ b) (h2 : b ≠ b' ∨ o + 5 < o' + 4 ∨ o' + 5 < o) (h3 : hi ≤ lo' ∨ hi' ≤ lo) (h4 : b' < lo ∨ hi ≤ b') : PR w0 W' p b o lo hi := by
 refine h.keep (fun j hj => ?_) (fun i hi1 hi2 => k.blk i (by omega) (by omega) (by omega))
 by_cases he : b = b'
 · subst he; exact k.cell _ (by omega) (by omega)
 · exact cell_blk (k.blk b hb he h1) _
structure Top (b o : Nat) (en go : Bool) (W V : World) : Prop where
 c4 : V.cell? ⟨b, o + 4, none⟩ = some (.bool en)
 c5 : V.cell? ⟨b, o + 5, none⟩ = some (.bool go)
 cell : ∀ j, j ≠ o + 4 → j ≠ o + 5 → V.cell? ⟨b, j, none⟩ = W.cell? ⟨b, j, none⟩
 blk : ∀ k, k ≠ b → V.heap[k]? = W.heap[k]?
 row : ∀ k, Row W k → Row V k
 os : V.os = W.os
 tape : V.tape = W.tape
 output : V.output = W.output
 size : V.heap.size = W.heap.size
theorem Top.refl {b o : Nat} {en go : Bool} {W : World} (h4 : W.cell? ⟨b, o + 4, none⟩ = some (.bool en)) (h5 : W.cell? ⟨b, o + 5, none⟩ = some (.bool go)) : Top b o en go W W :=
 ⟨h4, h5, fun _ _ _ => rfl, fun _ _ => rfl, fun _ h => h, rfl, rfl, rfl, rfl⟩
theorem Top.set4 {b o : Nat} {en go : Bool} {W V : World} (h : Top b o en go W V) (e : Bool) : Top b o e go W (V.setCell ⟨b, o + 4, none⟩ (.bool e)) :=
 ⟨cell_set_same h.c4, (cell_set_other (.inr (by omega))).trans h.c5, fun j h1 h2 => (cell_set_other (.inr (by omega))).trans (h.cell j h1 h2), fun k hk => (Below.heap_setCell _ _ _ _ hk).trans (h.blk k hk), fun k hr => (h.row k hr).set _ _, h.os, h.tape, h.output, by rw [← h.size]; simp [World.setCell]⟩
theorem Top.set5 {b o : Nat} {en go : Bool} {W V : World} (h : Top b o en go W V) (e : Bool) : Top b o en e W (V.setCell ⟨b, o + 5, none⟩ (.bool e)) :=
 ⟨(cell_set_other (.inr (by omega))).trans h.c4, cell_set_same h.c5, fun j h1 h2 => (cell_set_other (.inr (by omega))).trans (h.cell j h1 h2), fun k hk => (Below.heap_setCell _ _ _ _ hk).trans (h.blk k hk), fun k hr => (h.row k hr).set _ _, h.os, h.tape, h.output, by rw [← h.size]; simp [World.setCell]⟩
theorem Top.kr {b o lo hi : Nat} {en go : Bool} {W V : World} (h : Top b o en go W V) : Kr b o lo hi W V :=
 ⟨h.os, h.tape, h.output, Nat.le_of_eq h.size.symm, fun k _ hk _ => h.blk k hk, h.cell, h.row⟩
theorem Top.c6 {b o : Nat} {en go en0 go0 nu : Bool} {k : Int} {sv kv : Value} {W V : World} (h : Top b o en go W V) (c : C6 W b o k sv kv nu en0 go0) : C6 V b o k sv kv nu en go :=
 ⟨(h.cell o (by omega) (by omega)).trans c.c0, (h.cell (o + 1) (by omega) (by omega)).trans c.c1, (h.cell (o + 2) (by omega) (by omega)).trans c.c2, (h.cell (o + 3) (by omega) (by omega)).trans c.c3, h.c4, h.c5⟩
theorem Top.kid {b o lo hi g o' l h' : Nat} {en go : Bool} {w0 W V : World} {p : Ps} (h : Top b o en go W V) (k : PR w0 W p g o' l h') (hb : b < lo ∨ hi ≤ b) (hg : lo ≤ g ∧ g < hi) (hl : lo ≤ l) (hh : h' ≤ hi) : PR w0 V p g o' l h' :=
 k.keep (fun j _ => cell_blk (h.blk g (by omega)) _) (fun i h1 h2 => h.blk i (by omega))
theorem pr_leaf {w0 V : World} {b o lo hi : Nat} {k : Int} {s : List (Int × Int)} {nu en go : Bool} {sp kp : Option Addr} {sc kc : Nat} (hk : k = 1 ∨ k = 3) (hs : s.length ≤ 1000000) (c : C6 V b o k (.slice sp s.length sc) (.slice kp 0 kc) nu en go) (hr : U.RdR w0 sp s) : PR w0 V (.leaf k s nu en go) b o lo hi := by
 unfold PR; exact ⟨hk, hs, sp, sc, kp, kc, c, hr⟩
theorem pr_one {w0 V : World} {b o lo hi g kc : Nat} {k : Int} {a : Ps} {nu en go : Bool} {sv : Value} (hk : k = 6 ∨ k = 7 ∨ k = 8) (c : C6 V b o k sv (.slice (some ⟨g, 0, none⟩) 1 kc) nu en go) (h1 : lo ≤ g) (h2 : g < hi) (hr : Row V g) (ha : PR w0 V a g 0 lo g) : PR w0 V (.one k a nu en go) b o lo hi := by
 unfold PR; exact ⟨hk, sv, g, kc, c, h1, h2, hr, ha⟩
theorem pr_two {w0 V : World} {b o lo hi g kc l1 h1 l2 h2 : Nat} {k : Int} {x y : Ps} {nu en go : Bool} {sv : Value} (hk : k = 4 ∨ k = 5) (c : C6 V b o k sv (.slice (some ⟨g, 0, none⟩) 2 kc) nu en go) (hg1 : lo ≤ g) (hg2 : g < hi) (hr : Row V g) (hx : PR w0 V x g 0 l1 h1) (hy : PR w0 V y g 6 l2 h2) (i1 : lo ≤ l1 ∧ h1 ≤ hi ∧ (g < l1 ∨ h1 ≤ g)) (i2 : lo ≤ l2 ∧ h2 ≤ hi ∧ (g < l2 ∨ h2 ≤ g)) (i3 : h1 ≤ l2 ∨ h2 ≤ l1) : PR w0 V (.two k x y nu en go) b o lo hi := by
 unfold PR; exact ⟨hk, sv, g, kc, l1, h1, l2, h2, c, hg1, hg2, hr, hx, hy, i1, i2, i3⟩
theorem PR.tell {w0 W : World} {p : Ps} {b o lo hi : Nat} (h : PR w0 W p b o lo hi) : W.cell? ⟨b, o + 3, none⟩ = some (.bool p.nu) ∧ W.cell? ⟨b, o + 4, none⟩ = some (.bool p.en) ∧ W.cell? ⟨b, o + 5, none⟩ = some (.bool p.go) := by
 cases p <;> unfold PR at h
 · obtain ⟨_, _, _, _, _, _, c, _⟩ := h; exact ⟨c.c3, c.c4, c.c5⟩
 · obtain ⟨_, _, _, _, c, _⟩ := h; exact ⟨c.c3, c.c4, c.c5⟩
 · obtain ⟨_, _, _, _, _, _, _, _, c, _⟩ := h; exact ⟨c.c3, c.c4, c.c5⟩
theorem elemSize145 (w : World) : (sizeOf (Tryz.prog.elem 145)).run Tryz.prog w = .ok 6 w := by kernel_rfl
def AnsRp (w0 W : World) (p : Ps) (b o lo hi : Nat) (r : Int) (bg : Bool) (e : Ending) (W' : World) : Prop :=
 e = .returned (.tuple #[]) ∧ PR w0 W' (p.read r bg) b o lo hi ∧ Kr b o lo hi W W'
set_option maxRecDepth 100000 in
set_option maxHeartbeats 1000000 in
theorem read_skip (W : World) (b o : Nat) (r : Int) (hg : W.cell? ⟨b, o + 5, none⟩ = some (.bool false)) :
   Calls Tryz.prog 93 #[.pointer (some ⟨b, o, none⟩), .int .i32 r, .bool false] W fun e W' => e = .returned (.tuple #[]) ∧ W' = W := by
 go_enter Tryz.func93, Tryz.ntmps93
 go_wp2
 exact bodyPost_ret (v := .tuple #[]) (by simp [results, Tryz.results93, go_sem]) rfl ⟨rfl, rfl⟩
theorem cell_ltB {w : World} {a : Addr} {v : Value} (h : w.cell? a = some v) : a.block < w.heap.size := by
 unfold World.cell? at h
 cases hb : w.heap[a.block]? with
 | none => rw [hb] at h; simp at h
 | some o => exact (Array.getElem?_eq_some_iff.1 hb).1
set_option maxRecDepth 100000 in
set_option maxHeartbeats 1000000 in
theorem partOf_1 (sp : Option Addr) (sl sc : Nat) (W : World) :
   Calls Tryz.prog 94 #[.int .i64 1, .slice sp sl sc, .slice none 0 0] W fun e W' => e = .returned (.agg #[.int .i64 1, .slice sp sl sc, .slice none 0 0, .bool false, .bool false, .bool false]) ∧ Below W.heap.size W W' := by
 go_enter Tryz.func94, Tryz.ntmps94
 go_wp2
 exact bodyPost_ret (v := .agg #[.int .i64 1, .slice sp sl sc, .slice none 0 0, .bool false, .bool false, .bool false]) (by simp [results, Tryz.results94, go_sem]) rfl ⟨rfl, nx (al1 W _) (al1 _ _)⟩
set_option maxRecDepth 100000 in
set_option maxHeartbeats 1000000 in
theorem partOf_3 (sp : Option Addr) (sl sc : Nat) (W : World) :
   Calls Tryz.prog 94 #[.int .i64 3, .slice sp sl sc, .slice none 0 0] W fun e W' => e = .returned (.agg #[.int .i64 3, .slice sp sl sc, .slice none 0 0, .bool true, .bool false, .bool false]) ∧ Below W.heap.size W W' := by
 go_enter Tryz.func94, Tryz.ntmps94
 go_wp2
 exact bodyPost_ret (v := .agg #[.int .i64 3, .slice sp sl sc, .slice none 0 0, .bool true, .bool false, .bool false]) (by simp [results, Tryz.results94, go_sem]) rfl ⟨rfl, nx (al1 W _) (al1 _ _)⟩
set_option maxRecDepth 100000 in
set_option maxHeartbeats 1000000 in
theorem partOf_6 (sp : Option Addr) (sl sc : Nat) (g kc : Nat) (n : Bool) (W : World) (hn : W.cell? ⟨g, 3, none⟩ = some (.bool n)) :
   Calls Tryz.prog 94 #[.int .i64 6, .slice sp sl sc, .slice (some ⟨g, 0, none⟩) 1 kc] W fun e W' => e = .returned (.agg #[.int .i64 6, .slice sp sl sc, .slice (some ⟨g, 0, none⟩) 1 kc, .bool true, .bool false, .bool false]) ∧ Below W.heap.size W W' := by
 have hgl : g < W.heap.size := cell_ltB hn
 have es := elemSize145
 go_enter Tryz.func94, Tryz.ntmps94
 go_wp2
 exact bodyPost_ret (v := .agg #[.int .i64 6, .slice sp sl sc, .slice (some ⟨g, 0, none⟩) 1 kc, .bool true, .bool false, .bool false]) (by simp [results, Tryz.results94, go_sem]) rfl ⟨rfl, nx (al1 W _) (al1 _ _)⟩
set_option maxRecDepth 100000 in
set_option maxHeartbeats 1000000 in
theorem partOf_7 (sp : Option Addr) (sl sc : Nat) (g kc : Nat) (n : Bool) (W : World) (hn : W.cell? ⟨g, 3, none⟩ = some (.bool n)) :
   Calls Tryz.prog 94 #[.int .i64 7, .slice sp sl sc, .slice (some ⟨g, 0, none⟩) 1 kc] W fun e W' => e = .returned (.agg #[.int .i64 7, .slice sp sl sc, .slice (some ⟨g, 0, none⟩) 1 kc, .bool n, .bool false, .bool false]) ∧ Below W.heap.size W W' := by
 have hgl : g < W.heap.size := cell_ltB hn
 have es := elemSize145
 go_enter Tryz.func94, Tryz.ntmps94
 go_wp2
 exact bodyPost_ret (v := .agg #[.int .i64 7, .slice sp sl sc, .slice (some ⟨g, 0, none⟩) 1 kc, .bool n, .bool false, .bool false]) (by simp [results, Tryz.results94, go_sem]) rfl ⟨rfl, nx (al1 W _) (al1 _ _)⟩
set_option maxRecDepth 100000 in
set_option maxHeartbeats 1000000 in
theorem partOf_8 (sp : Option Addr) (sl sc : Nat) (g kc : Nat) (n : Bool) (W : World) (hn : W.cell? ⟨g, 3, none⟩ = some (.bool n)) :
   Calls Tryz.prog 94 #[.int .i64 8, .slice sp sl sc, .slice (some ⟨g, 0, none⟩) 1 kc] W fun e W' => e = .returned (.agg #[.int .i64 8, .slice sp sl sc, .slice (some ⟨g, 0, none⟩) 1 kc, .bool true, .bool false, .bool false]) ∧ Below W.heap.size W W' := by
 have hgl : g < W.heap.size := cell_ltB hn
 have es := elemSize145
 go_enter Tryz.func94, Tryz.ntmps94
 go_wp2
 exact bodyPost_ret (v := .agg #[.int .i64 8, .slice sp sl sc, .slice (some ⟨g, 0, none⟩) 1 kc, .bool true, .bool false, .bool false]) (by simp [results, Tryz.results94, go_sem]) rfl ⟨rfl, nx (al1 W _) (al1 _ _)⟩
set_option maxRecDepth 100000 in
set_option maxHeartbeats 1000000 in
theorem partOf_4 (sp : Option Addr) (sl sc : Nat) (g kc : Nat) (n m : Bool) (W : World) (hn : W.cell? ⟨g, 3, none⟩ = some (.bool n)) (hm : W.cell? ⟨g, 9, none⟩ = some (.bool m)) :
   Calls Tryz.prog 94 #[.int .i64 4, .slice sp sl sc, .slice (some ⟨g, 0, none⟩) 2 kc] W fun e W' => e = .returned (.agg #[.int .i64 4, .slice sp sl sc, .slice (some ⟨g, 0, none⟩) 2 kc, .bool (n && m), .bool false, .bool false]) ∧ Below W.heap.size W W' := by
 have hgl : g < W.heap.size := cell_ltB hn
 have es := elemSize145
 go_enter Tryz.func94, Tryz.ntmps94
 cases n with
 | true =>
   go_wp2
   exact bodyPost_ret (v := .agg #[.int .i64 4, .slice sp sl sc, .slice (some ⟨g, 0, none⟩) 2 kc, .bool m, .bool false, .bool false]) (by simp [results, Tryz.results94, go_sem]) rfl ⟨rfl, nx (al1 W _) (al1 _ _)⟩
 | false =>
   go_wp2
   exact bodyPost_ret (v := .agg #[.int .i64 4, .slice sp sl sc, .slice (some ⟨g, 0, none⟩) 2 kc, .bool false, .bool false, .bool false]) (by simp [results, Tryz.results94, go_sem]) rfl ⟨rfl, nx (al1 W _) (al1 _ _)⟩
set_option maxRecDepth 100000 in
set_option maxHeartbeats 1000000 in
theorem partOf_5 (sp : Option Addr) (sl sc : Nat) (g kc : Nat) (n m : Bool) (W : World) (hn : W.cell? ⟨g, 3, none⟩ = some (.bool n)) (hm : W.cell? ⟨g, 9, none⟩ = some (.bool m)) :
   Calls Tryz.prog 94 #[.int .i64 5, .slice sp sl sc, .slice (some ⟨g, 0, none⟩) 2 kc] W fun e W' => e = .returned (.agg #[.int .i64 5, .slice sp sl sc, .slice (some ⟨g, 0, none⟩) 2 kc, .bool (n || m), .bool false, .bool false]) ∧ Below W.heap.size W W' := by
 have hgl : g < W.heap.size := cell_ltB hn
 have es := elemSize145
 go_enter Tryz.func94, Tryz.ntmps94
 cases n with
 | true =>
   go_wp2
   exact bodyPost_ret (v := .agg #[.int .i64 5, .slice sp sl sc, .slice (some ⟨g, 0, none⟩) 2 kc, .bool true, .bool false, .bool false]) (by simp [results, Tryz.results94, go_sem]) rfl ⟨rfl, nx (al1 W _) (al1 _ _)⟩
 | false =>
   go_wp2
   exact bodyPost_ret (v := .agg #[.int .i64 5, .slice sp sl sc, .slice (some ⟨g, 0, none⟩) 2 kc, .bool m, .bool false, .bool false]) (by simp [results, Tryz.results94, go_sem]) rfl ⟨rfl, nx (al1 W _) (al1 _ _)⟩
end Go.Proofs.YtemanednddhfaaaGreatDoor
namespace Go.Proofs.YtemanednddhfaaaGreatDoor
open Go.RowKit
open E (Ps Rx T)
attribute [local go_sem] Oper.semAt_some
theorem PR.wide {w0 W : World} : ∀ {p : Ps} {b o lo hi lo' hi' : Nat}, PR w0 W p b o lo hi → lo' ≤ lo → hi ≤ hi' → PR w0 W p b o lo' hi'
 | .leaf k s nu en go, b, o, lo, hi, lo', hi', h, _, _ => by
   unfold PR at h ⊢
   exact h
 | .one k a nu en go, b, o, lo, hi, lo', hi', h, h1, h2 => by
   unfold PR at h ⊢
   obtain ⟨i1, sv, g, kc, i3, i4, i5, i6, i7⟩ := h
   exact ⟨i1, sv, g, kc, i3, by omega, by omega, i6, PR.wide i7 h1 (Nat.le_refl _)⟩
 | .two k x y nu en go, b, o, lo, hi, lo', hi', h, h1, h2 => by
   unfold PR at h ⊢
   obtain ⟨i1, sv, g, kc, l1, e1, l2, e2, i3, i4, i5, i6, i7, i8, i9, i10, i11⟩ := h
   exact ⟨i1, sv, g, kc, l1, e1, l2, e2, i3, by omega, by omega, i6, i7, i8, by omega, by omega, i11⟩
def six (k : Int) (sp : Option Addr) (sl sc : Nat) (kp : Option Addr) (kl kc : Nat) (nu en go : Bool) : List Value := [.int .i64 k, .slice sp sl sc, .slice kp kl kc, .bool nu, .bool en, .bool go]
def PV (w0 W : World) (p : Ps) (v : Value) (lo hi : Nat) : Prop :=
 ∃ k sp sl sc kp kl kc nu en go, v = .agg (six k sp sl sc kp kl kc nu en go).toArray ∧
   ∀ V b o, C6 V b o k (.slice sp sl sc) (.slice kp kl kc) nu en go → (∀ i, lo ≤ i → i < hi → V.heap[i]? = W.heap[i]?) → PR w0 V p b o lo hi
theorem PV.later {w0 W W' : World} {p : Ps} {v : Value} {lo hi : Nat} (h : PV w0 W p v lo hi) (hb : ∀ i, lo ≤ i → i < hi → W'.heap[i]? = W.heap[i]?) : PV w0 W' p v lo hi := by
 obtain ⟨k, sp, sl, sc, kp, kl, kc, nu, en, go, e, h2⟩ := h
 exact ⟨k, sp, sl, sc, kp, kl, kc, nu, en, go, e, fun V b o c hv => h2 V b o c (fun i h1 h2 => (hv i h1 h2).trans (hb i h1 h2))⟩
def HowC (h : Nat) (f : T → Ps) (t : T) : Prop := ∀ (w0 W : World) (d : ND), TR w0 (fun _ => True) t d.v → Below w0.heap.size w0 W →
 Calls Tryz.prog h #[d.v] W fun e W' => ∃ v, e = .returned v ∧ PV w0 W' (f t) v W.heap.size W'.heap.size ∧ Below W.heap.size W W'
theorem info147 : (Tryz.prog.info? 147).map (fun i => (i.zero, i.size, i.bytes)) = some (some (.agg #[.int .i64 0, .slice none 0 0, .slice none 0 0, .bool false, .bool false, .bool false]), 6, 64) := by kernel_rfl
theorem info_parts8 {e : TypeId} {z : Value} {n k : Nat} (h : (Tryz.prog.info? e).map (fun i => (i.zero, i.size, i.bytes)) = some (some z, n, k)) : ∃ i, Tryz.prog.info? e = some i ∧ i.zero = some z ∧ i.size = n ∧ i.bytes = k := by
 cases hi : Tryz.prog.info? e with
 | none => rw [hi] at h; cases h
 | some i =>
   rw [hi] at h
   simp at h
   exact ⟨i, rfl, h.1, h.2.1, h.2.2⟩
theorem new_cells8 (W : World) (xs : List Value) (t : TypeId) (cs : Array Value) (hcs : cs = xs.toArray) : ∀ j u, xs[j]? = some u → (W.alloc (.cells cs t)).cell? ((⟨W.heap.size, 0, none⟩ : Addr).add j) = some u := by
 intro j u hj
 subst hcs
 rw [Addr.add_mid]
 simp only [World.cell?, heap_alloc_new, Nat.zero_add]
 simpa using hj
theorem six_one (k : Int) (sp : Option Addr) (sl sc : Nat) (kp : Option Addr) (kl kc : Nat) (nu en go : Bool) : ∀ u ∈ six k sp sl sc kp kl kc nu en go, u.oneCell' = true := by
 intro u hu
 simp only [six, List.mem_cons, List.not_mem_nil, or_false] at hu
 rcases hu with rfl | rfl | rfl | rfl | rfl | rfl <;> rfl
theorem own_cell8 {W : World} {B n : Nat} {v : Value} {xs : List Value} (h : W.ownsRow B 147 6 v n xs) (hn : 0 < n) : ∃ g cap, v = .slice (some ⟨g, 0, none⟩) n cap ∧ Row W g ∧ B ≤ g ∧ v.ownBlock = some g ∧ ∀ j, j < xs.length → W.cell? ⟨g, j, none⟩ = xs[j]? := by
 obtain ⟨h1, h2 | ⟨g, cp, cur, rfl, h4, h5, h6, h7, h8, h9⟩⟩ := h
 · omega
 · refine ⟨g, cp, rfl, ⟨cur, h5⟩, h4, rfl, fun j hj => ?_⟩
   have e : (cur.toList.take (n * 6))[j]? = xs[j]? := by rw [h9]
   rw [List.getElem?_take, if_pos (by omega)] at e
   simp only [World.cell?, h5]
   rw [← e]
   simp
theorem c6_of {W : World} {g o : Nat} {k : Int} {sp : Option Addr} {sl sc : Nat} {kp : Option Addr} {kl kc : Nat} {nu en go : Bool} (h : ∀ j, j < 6 → W.cell? ⟨g, o + j, none⟩ = (six k sp sl sc kp kl kc nu en go)[j]?) : C6 W g o k (.slice sp sl sc) (.slice kp kl kc) nu en go :=
 ⟨h 0 (by omega), h 1 (by omega), h 2 (by omega), h 3 (by omega), h 4 (by omega), h 5 (by omega)⟩
theorem c5_at {w W : World} {b o : Nat} {d : ND} (h : Cells5 w b o d.v) (hB : Below w.heap.size w W) : W.cell? ⟨b, o, none⟩ = some (.int .i64 d.k) ∧ W.cell? ⟨b, o + 1, none⟩ = some (.int .i64 d.a) ∧ W.cell? ⟨b, o + 2, none⟩ = some (.slice d.sp d.sl d.sc) ∧ W.cell? ⟨b, o + 3, none⟩ = some (.string d.n) ∧ W.cell? ⟨b, o + 4, none⟩ = some (.slice d.kp d.kl d.kc) := by
 have hb := cells5_lt h
 obtain ⟨c0, c1, c2, c3, c4, e, h0, h1, h2, h3, h4⟩ := h
 have k : ∀ j, W.cell? ⟨b, j, none⟩ = w.cell? ⟨b, j, none⟩ := fun j => hB.cell (p := ⟨b, j, none⟩) hb
 unfold ND.v at e
 simp only [Value.agg.injEq, Array.mk.injEq, List.cons.injEq, and_true] at e
 obtain ⟨rfl, rfl, rfl, rfl, rfl⟩ := e
 exact ⟨by rw [k]; exact h0, by rw [k]; exact h1, by rw [k]; exact h2, by rw [k]; exact h3, by rw [k]; exact h4⟩
set_option maxRecDepth 100000 in
set_option maxHeartbeats 1000000 in
theorem parts_none (h : Nat) (kp : Option Addr) (kc : Nat) (W : World) :
   Calls Tryz.prog 95 #[.slice kp 0 kc, .func (.func h) #[] #[]] W fun e W' => e = .returned (.slice none 0 0) ∧ W' = W := by
 go_enter Tryz.func95, Tryz.ntmps95
 go_wp2
 go_loopw [5, 10] (fun u v wr => u = .slice none 0 0 ∧ v = .int .i64 0 ∧ wr = W) (fun _ _ _ => 0)
 case atStart => exact ⟨rfl, rfl, rfl⟩
 case round =>
   obtain ⟨rfl, rfl, rfl⟩ := hrel
   go_wp2
   go_ret
   exact ⟨rfl, rfl⟩
def Mk (w0 w : World) (p : Ps) (lo hi : Nat) (cs : List Value) : Prop :=
 ∃ k sp sl sc kp kl kc nu en go, cs = six k sp sl sc kp kl kc nu en go ∧ ∀ V b o, C6 V b o k (.slice sp sl sc) (.slice kp kl kc) nu en go → (∀ i, lo ≤ i → i < hi → V.heap[i]? = w.heap[i]?) → PR w0 V p b o lo hi
theorem Mk.at {w0 w V : World} {p : Ps} {lo hi g o : Nat} {cs : List Value} (h : Mk w0 w p lo hi cs) (hc : ∀ j, j < 6 → V.cell? ⟨g, o + j, none⟩ = cs[j]?) (hb : ∀ i, lo ≤ i → i < hi → V.heap[i]? = w.heap[i]?) : PR w0 V p g o lo hi := by
 obtain ⟨k, sp, sl, sc, kp, kl, kc, nu, en, go, rfl, h⟩ := h
 exact h V g o (c6_of hc) hb
theorem Mk.later {w0 w w' : World} {p : Ps} {lo hi : Nat} {cs : List Value} (h : Mk w0 w p lo hi cs) (hb : ∀ i, lo ≤ i → i < hi → w'.heap[i]? = w.heap[i]?) : Mk w0 w' p lo hi cs := by
 obtain ⟨k, sp, sl, sc, kp, kl, kc, nu, en, go, e, h⟩ := h
 exact ⟨k, sp, sl, sc, kp, kl, kc, nu, en, go, e, fun V b o c hv => h V b o c (fun i h1 h2 => (hv i h1 h2).trans (hb i h1 h2))⟩
theorem Mk.len {w0 w : World} {p : Ps} {lo hi : Nat} {cs : List Value} (h : Mk w0 w p lo hi cs) : cs.length = 6 := by
 obtain ⟨k, sp, sl, sc, kp, kl, kc, nu, en, go, rfl, h⟩ := h
 rfl
def One (w0 W : World) (p : Ps) (u : Value) (wr : World) : Prop :=
 ∃ cs lo hi, W.heap.size ≤ lo ∧ lo ≤ hi ∧ Mk w0 wr p lo hi cs ∧ wr.ownsRow hi 147 6 u 1 cs ∧ Below W.heap.size W wr
theorem one_step {w0 W w1 w2 w3 : World} {p : Ps} {v' : Value} {tmp : Obj} {cs : List Value} (hm : Mk w0 w2 p w1.heap.size w2.heap.size cs) (hown : w3.ownsRow w2.heap.size 147 6 v' 1 cs) (hg : (w2.alloc tmp).grownBy w3 none) (hb : Below W.heap.size W w2) (hl : W.heap.size ≤ w1.heap.size) (h12 : w1.heap.size ≤ w2.heap.size) : One w0 W p v' w3 := by
 have h23 : ∀ i, i < w2.heap.size → w3.heap[i]? = w2.heap[i]? := fun i hi => (hg.block i (by simp; omega) (by simp)).trans (Below.heap_alloc _ _ _ hi)
 refine ⟨cs, w1.heap.size, w2.heap.size, hl, h12, hm.later (fun i _ hi => h23 i hi), hown, hb.trans ⟨hg.os, hg.tape, hg.output, Nat.le_trans (by simp) hg.size, fun i hi => h23 i (by omega)⟩⟩
theorem one_end {w0 W wr : World} {p : Ps} {u : Value} (h : One w0 W p u wr) : ∃ g cap h1, u = .slice (some ⟨g, 0, none⟩) 1 cap ∧ Row wr g ∧ PR w0 wr p g 0 W.heap.size h1 ∧ W.heap.size ≤ g ∧ h1 ≤ g ∧ Below W.heap.size W wr := by
 obtain ⟨cs, lo, hi, h1, h2, hm, ho, hb⟩ := h
 obtain ⟨g, cap, rfl, hr, hg, _, hc⟩ := own_cell8 ho (by omega)
 refine ⟨g, cap, hi, rfl, hr, (hm.at (fun j hj => ?_) (fun _ _ _ => rfl)).wide h1 (Nat.le_refl _), by omega, hg, hb⟩
 rw [Nat.zero_add]
 exact hc j (by rw [hm.len]; exact hj)
def SL (W : World) (g o : Nat) : Prop := ∃ k sp sl sc kp kl kc nu en go, C6 W g o k (.slice sp sl sc) (.slice kp kl kc) nu en go
theorem SL.keep {W W' : World} {g o : Nat} (h : SL W g o) (hb : W'.heap[g]? = W.heap[g]?) : SL W' g o := by
 obtain ⟨k, sp, sl, sc, kp, kl, kc, nu, en, go, h⟩ := h
 exact ⟨k, sp, sl, sc, kp, kl, kc, nu, en, go, h.keep (fun j _ => cell_blk hb _)⟩
theorem Mk.sl {w0 w V : World} {p : Ps} {lo hi g o : Nat} {cs : List Value} (h : Mk w0 w p lo hi cs) (hc : ∀ j, j < 6 → V.cell? ⟨g, o + j, none⟩ = cs[j]?) : SL V g o := by
 obtain ⟨k, sp, sl, sc, kp, kl, kc, nu, en, go, rfl, h⟩ := h
 exact ⟨k, sp, sl, sc, kp, kl, kc, nu, en, go, c6_of hc⟩
def Two (w0 W : World) (p q : Ps) (u : Value) (wr : World) : Prop := ∃ g cap l1 h1 l2 h2, u = .slice (some ⟨g, 0, none⟩) 2 cap ∧ Row wr g ∧ PR w0 wr p g 0 l1 h1 ∧ PR w0 wr q g 6 l2 h2 ∧ (W.heap.size ≤ l1 ∧ h1 ≤ wr.heap.size ∧ (g < l1 ∨ h1 ≤ g)) ∧ (W.heap.size ≤ l2 ∧ h2 ≤ wr.heap.size ∧ (g < l2 ∨ h2 ≤ g)) ∧ (h1 ≤ l2 ∨ h2 ≤ l1) ∧ W.heap.size ≤ g ∧ g < wr.heap.size ∧ Below W.heap.size W wr ∧ SL wr g 0 ∧ SL wr g 6
theorem two_step {w0 W w1 w2 w3 : World} {p q : Ps} {u v' : Value} {tmp : Obj} {cs1 cs2 : List Value} {lo hi : Nat} (h1 : W.heap.size ≤ lo) (h2 : lo ≤ hi) (hm1 : Mk w0 w2 p lo hi cs1) (ho1 : w1.ownsRow hi 147 6 u 1 cs1)
   (hm : Mk w0 w2 q w1.heap.size w2.heap.size cs2) (hown : w3.ownsRow hi 147 6 v' (1 + 1) (cs1 ++ cs2)) (hg : (w2.alloc tmp).grownBy w3 u.ownBlock) (hat : v'.ownBlock = u.ownBlock ∨ v'.ownBlock = some (w2.alloc tmp).heap.size) (hb : Below W.heap.size W w2) (hl : hi ≤ w1.heap.size) (h12 : w1.heap.size ≤ w2.heap.size) : Two w0 W p q v' w3 := by
 obtain ⟨g1, cap1, rfl, hr1, hg1, _, _⟩ := own_cell8 ho1 (by omega)
 have hlt := hr1.lt
 obtain ⟨g, cap, rfl, hr, hgb, _, hc⟩ := own_cell8 hown (by omega)
 have hne : ∀ i, i < w2.heap.size → i ≠ g1 → w3.heap[i]? = w2.heap[i]? := fun i hi hn => (hg.block i (by simp; omega) (by simp [Value.ownBlock]; omega)).trans (Below.heap_alloc _ _ _ hi)
 have hs3 : w2.heap.size + 1 ≤ w3.heap.size := by have := hg.size; simp at this; omega
 have hga : g = g1 ∨ w2.heap.size ≤ g := by
   rcases hat with h | h
   · left; simpa [Value.ownBlock] using h
   · right; simp [Value.ownBlock] at h; omega
 have hl1 := hm1.len
 have hl2 := hm.len
 have k1 : ∀ j, j < 6 → w3.cell? ⟨g, 0 + j, none⟩ = cs1[j]? := fun j hj => by
   rw [Nat.zero_add, hc j (by rw [List.length_append]; omega), List.getElem?_append_left (by omega)]
 have k2 : ∀ j, j < 6 → w3.cell? ⟨g, 6 + j, none⟩ = cs2[j]? := fun j hj => by
   rw [hc (6 + j) (by rw [List.length_append]; omega), List.getElem?_append_right (by omega)]
   congr 1
   omega
 exact ⟨g, cap, lo, hi, w1.heap.size, w2.heap.size, rfl, hr, hm1.at k1 (fun i _ hi' => hne i (by omega) (by omega)), hm.at k2 (fun i hi' hi'' => hne i hi'' (by omega)), ⟨h1, by omega, by omega⟩, ⟨by omega, by omega, by omega⟩, .inl hl, by omega, hr.lt, hb.trans ⟨hg.os, hg.tape, hg.output, by omega, fun i hi' => hne i (by have := hb.size; omega) (by omega)⟩, hm1.sl k1, hm.sl k2⟩
theorem elemSize24F (w : World) : (sizeOf (Tryz.prog.elem 24)).run Tryz.prog w = .ok 5 w := by kernel_rfl
set_option maxRecDepth 100000 in
set_option maxHeartbeats 2000000 in
theorem parts_one66 (f : T → Ps) (x0 : T) (hx0 : HowC 61 f x0) (w0 W : World) (kp : Option Addr) (kc : Nat) (hK : KR w0 (fun _ => True) [x0] kp 0) (hB : Below w0.heap.size w0 W) :
   Calls Tryz.prog 95 #[.slice kp 1 kc, .func (.func 61) #[] #[]] W fun e W' => ∃ u, e = .returned u ∧ One w0 W (f x0) u W' := by
 rw [KR] at hK
 obtain ⟨⟨b, off, v, rfl, _, hT0, hC0⟩, _⟩ := hK
 rw [show off + 0 * 5 = off by omega] at hC0
 obtain ⟨d0, rfl, hdd⟩ := hT0.nd
 clear hdd
 have hbl0 := cells5_lt hC0
 obtain ⟨i0, hi0, hz0, hz1, hz2⟩ := info_parts8 info147
 have es := elemSize24F
 go_enter Tryz.func95, Tryz.ntmps95
 go_wp2
 go_loopw [5, 10] (fun u v wr => (u = .slice none 0 0 ∧ v = .int .i64 0 ∧ Below W.heap.size W wr) ∨ (v = .int .i64 1 ∧ One w0 W (f x0) u wr)) (fun _ v _ => 1 - (intOf v).toNat)
 case atStart => exact .inl ⟨rfl, rfl, Below.refl _ _⟩
 case round =>
   rcases hrel with ⟨rfl, rfl, hB2⟩ | ⟨rfl, ho⟩
   · have hB1 : Below w0.heap.size w0 wr := hB.trans (hB2.mono hB.size)
     obtain ⟨c0, c1, c2, c3, c4⟩ := c5_at hC0 hB1
     have a1 := al1 wr (.cells #[.int .i64 d0.k, .int .i64 d0.a, .slice d0.sp d0.sl d0.sc, .string d0.n, .slice d0.kp d0.kl d0.kc] 26)
     have hcall := hx0 w0 (wr.alloc (.cells #[.int .i64 d0.k, .int .i64 d0.a, .slice d0.sp d0.sl d0.sc, .string d0.n, .slice d0.kp d0.kl d0.kc] 26)) d0 hT0 (hB1.trans (a1.mono hB1.size))
     have hbW : b < wr.heap.size := by have := hB1.size; omega
     unfold ND.v at hcall
     go_wp2_with fail
     refine hcall.mono ?_
     rintro e w2 ⟨v, rfl, hpv, hb2⟩
     obtain ⟨k, sp, sl, sc, kp, kl, kc, nu, en, go, rfl, hmk⟩ := hpv
     have z1 := World.size_alloc wr (.cells #[.int .i64 d0.k, .int .i64 d0.a, .slice d0.sp d0.sl d0.sc, .string d0.n, .slice d0.kp d0.kl d0.kc] 26)
     have z2 := hb2.size
     have bb := nx a1 hb2
     have HMK : Hid (Mk w0 w2 (f x0) (wr.alloc (.cells #[.int .i64 d0.k, .int .i64 d0.a, .slice d0.sp d0.sl d0.sc, .string d0.n, .slice d0.kp d0.kl d0.kc] 26)).heap.size w2.heap.size (six k sp sl sc kp kl kc nu en go)) := hide ⟨k, sp, sl, sc, kp, kl, kc, nu, en, go, rfl, hmk⟩
     unfold six
     clear hcall c0 c1 c2 c3 c4 hmk
     go_wp2_with (at_builtin; refine wpList_append_own_at _ rfl _ _ 145 rfl w2.heap.size 147 i0 _ 6 64 Tryz.underlying145 hi0 hz0 hz1 hz2 rfl (by decide) (.slice none 0 0) 0 [] rfl (World.ownsRow_nil _ _ _ _) ⟨w2.heap.size, 0, none⟩ 1 1 (six k sp sl sc kp kl kc nu en go) rfl rfl (new_cells8 _ _ _ _ rfl) (six_one _ _ _ _ _ _ _ _ _ _) (by unfold maxLen; omega) (by omega) (by have := z2; simp; try omega) ?_; intro v' w3 hown hgrow _ hat)
     have ho := one_step HMK.out hown hgrow (hB2.trans (bb.mono hB2.size)) (by have := hB2.size; omega) z2
     go_roundw
     case rel => exact .inr ⟨by first | rfl | go_num, ho⟩
     case measure => simp [intOf]
   · obtain ⟨g, cap, h1, rfl, _⟩ := one_end ho
     have HO := hide ho
     clear ho
     go_wp2
     go_ret
     exact ⟨_, rfl, HO.out⟩
set_option maxRecDepth 100000 in
set_option maxHeartbeats 2000000 in
theorem parts_two66 (f : T → Ps) (x0 x1 : T) (hx0 : HowC 61 f x0) (hx1 : HowC 61 f x1) (w0 W : World) (kp : Option Addr) (kc : Nat) (hK : KR w0 (fun _ => True) [x0, x1] kp 0) (hB : Below w0.heap.size w0 W) :
   Calls Tryz.prog 95 #[.slice kp 2 kc, .func (.func 61) #[] #[]] W fun e W' => ∃ u, e = .returned u ∧ Two w0 W (f x0) (f x1) u W' := by
 rw [KR, KR] at hK
 obtain ⟨⟨b, off, v, rfl, _, hT0, hC0⟩, ⟨b', off', v1, e1, _, hT1, hC1⟩, _⟩ := hK
 cases e1
 rw [show off + 0 * 5 = off by omega] at hC0
 rw [show off + (0 + 1) * 5 = off + 5 by omega] at hC1
 obtain ⟨d0, rfl, hdd⟩ := hT0.nd
 clear hdd
 have hbl0 := cells5_lt hC0
 obtain ⟨d1, rfl, hdd⟩ := hT1.nd
 clear hdd
 have hbl1 := cells5_lt hC1
 obtain ⟨i0, hi0, hz0, hz1, hz2⟩ := info_parts8 info147
 have es := elemSize24F
 go_enter Tryz.func95, Tryz.ntmps95
 go_wp2
 go_loopw [5, 10] (fun u v wr => (u = .slice none 0 0 ∧ v = .int .i64 0 ∧ Below W.heap.size W wr) ∨ (v = .int .i64 1 ∧ One w0 W (f x0) u wr) ∨ (v = .int .i64 2 ∧ Two w0 W (f x0) (f x1) u wr)) (fun _ v _ => 2 - (intOf v).toNat)
 case atStart => exact .inl ⟨rfl, rfl, Below.refl _ _⟩
 case round =>
   rcases hrel with ⟨rfl, rfl, hB2⟩ | ⟨rfl, ho⟩ | ⟨rfl, ho⟩
   · have hB1 : Below w0.heap.size w0 wr := hB.trans (hB2.mono hB.size)
     obtain ⟨c0, c1, c2, c3, c4⟩ := c5_at hC0 hB1
     have a1 := al1 wr (.cells #[.int .i64 d0.k, .int .i64 d0.a, .slice d0.sp d0.sl d0.sc, .string d0.n, .slice d0.kp d0.kl d0.kc] 26)
     have hcall := hx0 w0 (wr.alloc (.cells #[.int .i64 d0.k, .int .i64 d0.a, .slice d0.sp d0.sl d0.sc, .string d0.n, .slice d0.kp d0.kl d0.kc] 26)) d0 hT0 (hB1.trans (a1.mono hB1.size))
     have hbW : b < wr.heap.size := by have := hB1.size; omega
     unfold ND.v at hcall
     go_wp2_with fail
     refine hcall.mono ?_
     rintro e w2 ⟨v, rfl, hpv, hb2⟩
     obtain ⟨k, sp, sl, sc, kp, kl, kc, nu, en, go, rfl, hmk⟩ := hpv
     have z1 := World.size_alloc wr (.cells #[.int .i64 d0.k, .int .i64 d0.a, .slice d0.sp d0.sl d0.sc, .string d0.n, .slice d0.kp d0.kl d0.kc] 26)
     have z2 := hb2.size
     have bb := nx a1 hb2
     have HMK : Hid (Mk w0 w2 (f x0) (wr.alloc (.cells #[.int .i64 d0.k, .int .i64 d0.a, .slice d0.sp d0.sl d0.sc, .string d0.n, .slice d0.kp d0.kl d0.kc] 26)).heap.size w2.heap.size (six k sp sl sc kp kl kc nu en go)) := hide ⟨k, sp, sl, sc, kp, kl, kc, nu, en, go, rfl, hmk⟩
     unfold six
     clear hcall c0 c1 c2 c3 c4 hmk
     go_wp2_with (at_builtin; refine wpList_append_own_at _ rfl _ _ 145 rfl w2.heap.size 147 i0 _ 6 64 Tryz.underlying145 hi0 hz0 hz1 hz2 rfl (by decide) (.slice none 0 0) 0 [] rfl (World.ownsRow_nil _ _ _ _) ⟨w2.heap.size, 0, none⟩ 1 1 (six k sp sl sc kp kl kc nu en go) rfl rfl (new_cells8 _ _ _ _ rfl) (six_one _ _ _ _ _ _ _ _ _ _) (by unfold maxLen; omega) (by omega) (by have := z2; simp; try omega) ?_; intro v' w3 hown hgrow _ hat)
     have ho := one_step HMK.out hown hgrow (hB2.trans (bb.mono hB2.size)) (by have := hB2.size; omega) z2
     go_roundw
     case rel => exact .inr (.inl ⟨by first | rfl | go_num, ho⟩)
     case measure => simp [intOf]
   · obtain ⟨cs1, lo, hi, hlo, hlh, hm1, ho1, hB2⟩ := ho
     obtain ⟨g, cap, rfl, hr1, hg1, _, _⟩ := own_cell8 ho1 (by omega)
     have hlt := hr1.lt
     have hB1 : Below w0.heap.size w0 wr := hB.trans (hB2.mono hB.size)
     have HO1 := hide ho1
     have HM1 := hide hm1
     clear hm1 ho1
     obtain ⟨c0, c1, c2, c3, c4⟩ := c5_at hC1 hB1
     have a1 := al1 wr (.cells #[.int .i64 d1.k, .int .i64 d1.a, .slice d1.sp d1.sl d1.sc, .string d1.n, .slice d1.kp d1.kl d1.kc] 26)
     have hcall := hx1 w0 (wr.alloc (.cells #[.int .i64 d1.k, .int .i64 d1.a, .slice d1.sp d1.sl d1.sc, .string d1.n, .slice d1.kp d1.kl d1.kc] 26)) d1 hT1 (hB1.trans (a1.mono hB1.size))
     have hbW : b < wr.heap.size := by have := hB1.size; omega
     unfold ND.v at hcall
     go_wp2_with fail
     refine hcall.mono ?_
     rintro e w2 ⟨v, rfl, hpv, hb2⟩
     obtain ⟨k, sp, sl, sc, kp, kl, kc, nu, en, go, rfl, hmk⟩ := hpv
     have z1 := World.size_alloc wr (.cells #[.int .i64 d1.k, .int .i64 d1.a, .slice d1.sp d1.sl d1.sc, .string d1.n, .slice d1.kp d1.kl d1.kc] 26)
     have z2 := hb2.size
     have bb := nx a1 hb2
     have HMK : Hid (Mk w0 w2 (f x1) (wr.alloc (.cells #[.int .i64 d1.k, .int .i64 d1.a, .slice d1.sp d1.sl d1.sc, .string d1.n, .slice d1.kp d1.kl d1.kc] 26)).heap.size w2.heap.size (six k sp sl sc kp kl kc nu en go)) := hide ⟨k, sp, sl, sc, kp, kl, kc, nu, en, go, rfl, hmk⟩
     unfold six
     clear hcall c0 c1 c2 c3 c4 hmk
     go_wp2_with (at_builtin; refine wpList_append_own_at _ rfl _ _ 145 rfl hi 147 i0 _ 6 64 Tryz.underlying145 hi0 hz0 hz1 hz2 rfl (by decide) (.slice (some ⟨g, 0, none⟩) 1 cap) 1 cs1 rfl (HO1.out.kept (grown_below (bb.trans ((al1 w2 _).mono bb.size)) none) (by simp [Value.ownBlock])) ⟨w2.heap.size, 0, none⟩ 1 1 (six k sp sl sc kp kl kc nu en go) rfl rfl (new_cells8 _ _ _ _ rfl) (six_one _ _ _ _ _ _ _ _ _ _) (by unfold maxLen; omega) (by omega) (by have := z2; simp; try omega) ?_; intro v' w3 hown hgrow _ hat)
     have ho := two_step hlo hlh (HM1.out.later (fun i _ hi => ((nx a1 hb2).block i (by omega)))) (HO1.out.kept (grown_below a1 none) (by simp [Value.ownBlock])) HMK.out hown hgrow hat (hB2.trans (bb.mono hB2.size)) (by omega) z2
     go_roundw
     case rel => exact .inr (.inr ⟨by first | rfl | go_num, ho⟩)
     case measure => simp [intOf]
   · obtain ⟨g, cap, l1, h1, l2, h2, rfl, _⟩ := id ho
     have HO := hide ho
     clear ho
     go_wp2
     go_ret
     exact ⟨_, rfl, HO.out⟩
def putP (w : World) (b : Nat) (v0 v1 v2 v3 v4 v5 : Value) : World := (((((w.setCell ⟨b, 0, none⟩ v0).setCell ⟨b, 1, none⟩ v1).setCell ⟨b, 2, none⟩ v2).setCell ⟨b, 3, none⟩ v3).setCell ⟨b, 4, none⟩ v4).setCell ⟨b, 5, none⟩ v5
theorem putP_box {w : World} {b : Nat} {v0 v1 v2 v3 v4 v5 u0 u1 u2 u3 u4 u5 : Value} {t : TypeId} (h : w.heap[b]? = some (.cells #[u0, u1, u2, u3, u4, u5] t)) : (putP w b v0 v1 v2 v3 v4 v5).heap[b]? = some (.cells #[v0, v1, v2, v3, v4, v5] t) := by
 simp [putP, World.setCell, Array.getElem?_modify, h]
theorem putP_other {w : World} {b k : Nat} {v0 v1 v2 v3 v4 v5 : Value} (h : k ≠ b) : (putP w b v0 v1 v2 v3 v4 v5).heap[k]? = w.heap[k]? := by
 unfold putP
 rw [Below.heap_setCell _ _ _ _ h, Below.heap_setCell _ _ _ _ h, Below.heap_setCell _ _ _ _ h, Below.heap_setCell _ _ _ _ h, Below.heap_setCell _ _ _ _ h, Below.heap_setCell _ _ _ _ h]
theorem putP_size (w : World) (b : Nat) (v0 v1 v2 v3 v4 v5 : Value) : (putP w b v0 v1 v2 v3 v4 v5).heap.size = w.heap.size := by simp [putP, World.setCell]
theorem putP_below {n : Nat} {w0 w : World} {b : Nat} {v0 v1 v2 v3 v4 v5 : Value} (h : Below n w0 w) (hb : n ≤ b) : Below n w0 (putP w b v0 v1 v2 v3 v4 v5) :=
 ((((((h.setCell (p := ⟨b, 0, none⟩) hb _).setCell (p := ⟨b, 1, none⟩) hb _).setCell (p := ⟨b, 2, none⟩) hb _).setCell (p := ⟨b, 3, none⟩) hb _).setCell (p := ⟨b, 4, none⟩) hb _).setCell (p := ⟨b, 5, none⟩) hb _)
theorem cells_six {W : World} {k : Nat} {u v x y z a : Value} {t : TypeId} (h : W.heap[k]? = some (.cells #[u, v, x, y, z, a] t)) : W.cell? ⟨k, 0, none⟩ = some u ∧ W.cell? ⟨k, 1, none⟩ = some v ∧ W.cell? ⟨k, 2, none⟩ = some x ∧ W.cell? ⟨k, 3, none⟩ = some y ∧ W.cell? ⟨k, 4, none⟩ = some z ∧ W.cell? ⟨k, 5, none⟩ = some a := by
 simp [World.cell?, h]
theorem Rcl.stP {w : World} {ρ : Operand → Value} {o : Oper} {x y : Operand} {b : Nat} {k : Int} {sp kp : Option Addr} {sl sc kl kc : Nat} {nu en go : Bool} {u0 u1 u2 u3 u4 u5 : Value} (hop : o.op = .store 147 x y) (hx : ρ x = .pointer (some ⟨b, 0, none⟩)) (hy : ρ y = .agg #[.int .i64 k, .slice sp sl sc, .slice kp kl kc, .bool nu, .bool en, .bool go]) (h : w.heap[b]? = some (.cells #[u0, u1, u2, u3, u4, u5] 147)) : (execOp ρ o).run Tryz.prog w = .ok .skip (putP w b (.int .i64 k) (.slice sp sl sc) (.slice kp kl kc) (.bool nu) (.bool en) (.bool go)) := by
 obtain ⟨dst, op, type, pos, after, guard⟩ := o
 simp only at hop
 subst hop
 obtain ⟨c0, c1, c2, c3, c4, c5⟩ := cells_six h
 have f : ∀ j, w.frozen? ⟨b, j, none⟩ = false := fun j => by simp [World.frozen?, h]
 have hsz := Tryz.sizeOf147 w
 simp [execOp, hx, hy, Instr.storeAt, Instr.sureAddr, storeVar, Sem.run_bind, hsz, Result.andThen, go_sem, c0, c1, c2, c3, c4, c5, f]
 rfl
theorem Rcl.faN {w : World} {ρ : Operand → Value} {o : Oper} {x : Operand} {b off i : Nat} (hop : o.op = .fieldAddr 26 x i) (hx : ρ x = .pointer (some ⟨b, off, none⟩)) (hi : i = 0 ∨ i = 2 ∨ i = 4) : (execOp ρ o).run Tryz.prog w = .ok (.value (.pointer (some ⟨b, off + i, none⟩))) w := by
 obtain ⟨dst, op, type, pos, after, guard⟩ := o
 simp only at hop
 subst hop
 rcases hi with rfl | rfl | rfl <;> simp [execOp, hx, go_sem]
set_option maxRecDepth 100000 in
set_option maxHeartbeats 2000000 in
theorem fwd_walk (d : ND) (W : World) (R : Option Addr → Nat → Nat → World → Prop) (R2 : Option Addr → Nat → Nat → Bool → World → Prop)
   (hparts : ∀ X, Below W.heap.size W X → W.heap.size + 2 ≤ X.heap.size → Calls Tryz.prog 95 #[.slice d.kp d.kl d.kc, .func (.func 61) #[] #[]] X fun e W1 => ∃ kp kl kc, e = .returned (.slice kp kl kc) ∧ Below X.heap.size X W1 ∧ R kp kl kc W1)
   (hof : ∀ kp kl kc W1, R kp kl kc W1 → Calls Tryz.prog 94 #[.int .i64 d.k, .slice d.sp d.sl d.sc, .slice kp kl kc] W1 fun e W2 => ∃ nu, e = .returned (.agg #[.int .i64 d.k, .slice d.sp d.sl d.sc, .slice kp kl kc, .bool nu, .bool false, .bool false]) ∧ Below W1.heap.size W1 W2 ∧ R2 kp kl kc nu W2) :
   Calls Tryz.prog 61 #[d.v] W fun e W' => ∃ kp kl kc nu W2, e = .returned (.agg #[.int .i64 d.k, .slice d.sp d.sl d.sc, .slice kp kl kc, .bool nu, .bool false, .bool false]) ∧ R2 kp kl kc nu W2 ∧ (∀ i, W.heap.size + 2 ≤ i → W'.heap[i]? = W2.heap[i]?) ∧ W'.heap.size = W2.heap.size ∧ Below W.heap.size W W' := by
 have a1 := al1 W (.cells #[.int .i64 d.k, .int .i64 d.a, .slice d.sp d.sl d.sc, .string d.n, .slice d.kp d.kl d.kc] 26)
 have a2 := al1 (W.alloc (.cells #[.int .i64 d.k, .int .i64 d.a, .slice d.sp d.sl d.sc, .string d.n, .slice d.kp d.kl d.kc] 26)) (.cells #[.int .i64 0, .slice none 0 0, .slice none 0 0, .bool false, .bool false, .bool false] 147)
 have n1 := heap_alloc_new W (.cells #[.int .i64 d.k, .int .i64 d.a, .slice d.sp d.sl d.sc, .string d.n, .slice d.kp d.kl d.kc] 26)
 have n2 := heap_alloc_new (W.alloc (.cells #[.int .i64 d.k, .int .i64 d.a, .slice d.sp d.sl d.sc, .string d.n, .slice d.kp d.kl d.kc] 26)) (.cells #[.int .i64 0, .slice none 0 0, .slice none 0 0, .bool false, .bool false, .bool false] 147)
 have x1 := (a2.block W.heap.size (by simp)).trans n1
 have x2 := n2
 rw [World.size_alloc] at x2
 have bX := nx a1 a2
 have sX : ((W.alloc (.cells #[.int .i64 d.k, .int .i64 d.a, .slice d.sp d.sl d.sc, .string d.n, .slice d.kp d.kl d.kc] 26)).alloc (.cells #[.int .i64 0, .slice none 0 0, .slice none 0 0, .bool false, .bool false, .bool false] 147)).heap.size = W.heap.size + 2 := by simp
 unfold ND.v
 go_enter Tryz.func61, Tryz.ntmps61
 go_wp2
 obtain ⟨X, hX⟩ : ∃ X, (W.alloc (.cells #[.int .i64 d.k, .int .i64 d.a, .slice d.sp d.sl d.sc, .string d.n, .slice d.kp d.kl d.kc] 26)).alloc (.cells #[.int .i64 0, .slice none 0 0, .slice none 0 0, .bool false, .bool false, .bool false] 147) = X := ⟨_, rfl⟩
 rw [hX] at x1 x2 bX sX ⊢
 clear hX a1 a2 n1 n2
 have kx : ∀ w', Below (W.heap.size + 1) X.drew w' → w'.heap[W.heap.size]? = some (.cells #[.int .i64 d.k, .int .i64 d.a, .slice d.sp d.sl d.sc, .string d.n, .slice d.kp d.kl d.kc] 26) := fun w' hb => (hb.block _ (by omega)).trans x1
 refine Reg.start (B := W.heap.size + 1) (by kernel_rfl) ?_
 refine Reg.take (fun _ _ _ _ _ h => h) 0 _ 3 (.pointer (some ⟨W.heap.size, 0 + 0, none⟩)) rfl (by kernel_rfl) (by kernel_rfl) (by kernel_rfl) rfl (by kernel_rfl) (by kernel_rfl) (fun w' hb => Rcl.faN rfl rfl (.inl rfl)) ?_
 refine Reg.take (fun _ _ _ _ _ h => h) 1 _ 4 (.int .i64 d.k) rfl (by kernel_rfl) (by kernel_rfl) (by kernel_rfl) rfl (by kernel_rfl) (by kernel_rfl) (fun w' hb => Reg.ldS rfl rfl (cells_five (kx w' hb)).1 (Tryz.isAgg3 _)) ?_
 refine Reg.take (fun _ _ _ _ _ h => h) 2 _ 5 (.pointer (some ⟨W.heap.size, 0 + 2, none⟩)) rfl (by kernel_rfl) (by kernel_rfl) (by kernel_rfl) rfl (by kernel_rfl) (by kernel_rfl) (fun w' hb => Rcl.faN rfl rfl (.inr (.inl rfl))) ?_
 refine Reg.take (fun _ _ _ _ _ h => h) 3 _ 6 (.slice d.sp d.sl d.sc) rfl (by kernel_rfl) (by kernel_rfl) (by kernel_rfl) rfl (by kernel_rfl) (by kernel_rfl) (fun w' hb => Reg.ldS rfl rfl (cells_five (kx w' hb)).2.2.1 (Tryz.isAgg23 _)) ?_
 refine Reg.take (fun _ _ _ _ _ h => h) 4 _ 7 (.pointer (some ⟨W.heap.size, 0 + 4, none⟩)) rfl (by kernel_rfl) (by kernel_rfl) (by kernel_rfl) rfl (by kernel_rfl) (by kernel_rfl) (fun w' hb => Rcl.faN rfl rfl (.inr (.inr rfl))) ?_
 refine Reg.take (fun _ _ _ _ _ h => h) 5 _ 8 (.slice d.kp d.kl d.kc) rfl (by kernel_rfl) (by kernel_rfl) (by kernel_rfl) rfl (by kernel_rfl) (by kernel_rfl) (fun w' hb => Reg.ldS rfl rfl (cells_five (kx w' hb)).2.2.2.2 (Tryz.isAgg24 _)) ?_
 refine Reg.call 6 _ 9 95 _ _ #[.slice d.kp d.kl d.kc, .func (.func 61) #[] #[]] rfl (by kernel_rfl) rfl (by kernel_rfl) (by kernel_rfl) rfl (by kernel_rfl) (by kernel_rfl) (hparts X.drew bX.drew (show W.heap.size + 2 ≤ X.heap.size by omega)) ?_
 rintro e W1 ⟨kp, kl, kc, rfl, hb1, hR⟩
 have s1 : X.heap.size ≤ W1.heap.size := hb1.size
 refine ⟨_, W.heap.size + 1, rfl, Nat.le_refl _, hb1.mono (show W.heap.size + 1 ≤ X.heap.size by omega), ?_⟩
 refine Reg.call 7 _ 10 94 _ _ #[.int .i64 d.k, .slice d.sp d.sl d.sc, .slice kp kl kc] rfl (by kernel_rfl) rfl (by kernel_rfl) (by kernel_rfl) rfl (by kernel_rfl) (by kernel_rfl) (hof kp kl kc W1 hR) ?_
 rintro e W2 ⟨nu, rfl, hb2, hR2⟩
 have s2 := hb2.size
 refine ⟨_, W.heap.size + 1, rfl, Nat.le_refl _, hb2.mono (by omega), ?_⟩
 have hbox : W2.heap[W.heap.size + 1]? = some (.cells #[.int .i64 0, .slice none 0 0, .slice none 0 0, .bool false, .bool false, .bool false] 147) := (hb2.block _ (by omega)).trans ((hb1.block _ (show W.heap.size + 1 < X.heap.size by omega)).trans x2)
 refine Reg.onlyS 8 _ rfl (by kernel_rfl) rfl (by kernel_rfl) (by kernel_rfl) ⟨putP W2 (W.heap.size + 1) (.int .i64 d.k) (.slice d.sp d.sl d.sc) (.slice kp kl kc) (.bool nu) (.bool false) (.bool false), W.heap.size + 1, Rcl.stP rfl rfl rfl hbox, Nat.le_refl _, putP_below (Below.refl _ _) (Nat.le_refl _), ?_⟩
 refine Reg.done (by kernel_rfl) ?_
 simp only [Reg.ov, Act.put, List.setIfInBounds_toArray, List.set_cons_succ, List.set_cons_zero]
 obtain ⟨q0, q1, q2, q3, q4, q5⟩ := cells_six (putP_box (v0 := .int .i64 d.k) (v1 := .slice d.sp d.sl d.sc) (v2 := .slice kp kl kc) (v3 := .bool nu) (v4 := .bool false) (v5 := .bool false) hbox)
 have bF : Below W.heap.size W (putP W2 (W.heap.size + 1) (.int .i64 d.k) (.slice d.sp d.sl d.sc) (.slice kp kl kc) (.bool nu) (.bool false) (.bool false)) := putP_below (bX.drew.trans ((hb1.mono (show W.heap.size ≤ X.heap.size by omega)).trans (hb2.mono (by omega)))) (by omega)
 have fin := (⟨kp, kl, kc, nu, W2, rfl, hR2, fun i hi => putP_other (by omega), putP_size _ _ _ _ _ _ _ _, bF⟩ : ∃ kp' kl' kc' nu' W2', Ending.returned (.agg #[.int .i64 d.k, .slice d.sp d.sl d.sc, .slice kp kl kc, .bool nu, .bool false, .bool false]) = .returned (.agg #[.int .i64 d.k, .slice d.sp d.sl d.sc, .slice kp' kl' kc', .bool nu', .bool false, .bool false]) ∧ R2 kp' kl' kc' nu' W2' ∧ (∀ i, W.heap.size + 2 ≤ i → (putP W2 (W.heap.size + 1) (.int .i64 d.k) (.slice d.sp d.sl d.sc) (.slice kp kl kc) (.bool nu) (.bool false) (.bool false)).heap[i]? = W2'.heap[i]?) ∧ (putP W2 (W.heap.size + 1) (.int .i64 d.k) (.slice d.sp d.sl d.sc) (.slice kp kl kc) (.bool nu) (.bool false) (.bool false)).heap.size = W2'.heap.size ∧ Below W.heap.size W (putP W2 (W.heap.size + 1) (.int .i64 d.k) (.slice d.sp d.sl d.sc) (.slice kp kl kc) (.bool nu) (.bool false) (.bool false)))
 have FIN := hide fin
 clear fin
 generalize putP W2 (W.heap.size + 1) (.int .i64 d.k) (.slice d.sp d.sl d.sc) (.slice kp kl kc) (.bool nu) (.bool false) (.bool false) = W9 at *
 clear hR2 hbox hb2 hb1 hR kx x1 x2 bX hparts hof
 go_wp2
 exact bodyPost_ret (v := .agg #[.int .i64 d.k, .slice d.sp d.sl d.sc, .slice kp kl kc, .bool nu, .bool false, .bool false]) (by simp [results, Tryz.results61, go_sem, q0, q1, q2, q3, q4, q5]) rfl FIN.out
namespace E
def rxOf : T → Rx
 | .mk k _ s _ [] => .leaf k s
 | .mk k _ _ _ [x] => .one k (rxOf x)
 | .mk k _ _ _ (x :: y :: _) => .two k (rxOf x) (rxOf y)
def Vp : T → Prop
 | .mk k _ s _ [] => (k = 1 ∨ k = 3) ∧ s.length ≤ 1000000
 | .mk k _ _ _ [x] => (k = 6 ∨ k = 7 ∨ k = 8) ∧ Vp x
 | .mk k _ _ _ [x, y] => (k = 4 ∨ k = 5) ∧ Vp x ∧ Vp y
 | .mk _ _ _ _ (_ :: _ :: _ :: _) => False
end E
open E (rxOf Vp)
theorem TR.parts8 {w : World} {ok : Nat → Prop} {k a : Int} {s : List U.S.R} {n : List UInt8} {ks : List T} {d : ND} (h : TR w ok (.mk k a s n ks) d.v) : d.k = k ∧ d.sl = s.length ∧ U.RdR w d.sp s ∧ d.kl = ks.length ∧ KR w ok ks d.kp 0 := by
 rw [TR] at h
 obtain ⟨sp, sc, kp, kc, e, h1, h2, h3⟩ := h
 unfold ND.v at e
 simp only [Value.agg.injEq, Array.mk.injEq, List.cons.injEq, Value.int.injEq, Value.slice.injEq, and_true, true_and] at e
 obtain ⟨e1, e2, ⟨e3, e4, e5⟩, e6, e7, e8, e9⟩ := e
 exact ⟨e1, e4, by rw [e3]; exact h1, e8, by rw [e7]; exact h3⟩
theorem nul_one {k : Int} (a : Rx) (h : k = 6 ∨ k = 8) : (Rx.one k a).nul = true := by
 unfold Rx.nul; rw [if_neg (by omega)]
theorem fwd_any : ∀ (t : T), Vp t → HowC 61 (fun t => (rxOf t).ps) t
 | .mk k a s n [], hV => by
   intro w0 W d hT hB
   rw [Vp] at hV
   obtain ⟨hk, hs⟩ := hV
   obtain ⟨rfl, e2, h1, e3, _⟩ := hT.parts8
   refine (fwd_walk d W (fun kp kl kc _ => kp = none ∧ kl = 0 ∧ kc = 0) (fun kp kl kc nu _ => kp = none ∧ kl = 0 ∧ kc = 0 ∧ nu = (!(d.k == 1))) ?_ ?_).mono ?_
   · intro X _ _
     rw [show d.kl = 0 from e3]
     refine (parts_none 61 d.kp d.kc X).mono ?_
     rintro e W' ⟨rfl, rfl⟩
     exact ⟨none, 0, 0, rfl, Below.refl _ _, rfl, rfl, rfl⟩
   · rintro kp kl kc W1 ⟨rfl, rfl, rfl⟩
     rcases hk with hk | hk
     · rw [hk]
       refine (partOf_1 d.sp d.sl d.sc W1).mono ?_
       rintro e W' ⟨rfl, hb⟩
       exact ⟨false, rfl, hb, rfl, rfl, rfl, rfl⟩
     · rw [hk]
       refine (partOf_3 d.sp d.sl d.sc W1).mono ?_
       rintro e W' ⟨rfl, hb⟩
       exact ⟨true, rfl, hb, rfl, rfl, rfl, rfl⟩
   · rintro e W' ⟨kp, kl, kc, nu, W2, rfl, ⟨rfl, rfl, rfl, rfl⟩, hblk, hsz, hb⟩
     refine ⟨_, rfl, ⟨d.k, d.sp, d.sl, d.sc, none, 0, 0, _, false, false, rfl, fun V b o c _ => ?_⟩, hb⟩
     show PR w0 V (rxOf (.mk d.k a s n [])).ps b o _ _
     rw [rxOf]
     rw [e2] at c
     exact pr_leaf hk hs c h1
 | .mk k a s n [x], hV => by
   intro w0 W d hT hB
   rw [Vp] at hV
   obtain ⟨hk, hx⟩ := hV
   have ih := fwd_any x hx
   obtain ⟨rfl, e2, _, e3, hK⟩ := hT.parts8
   refine (fwd_walk d W (fun kp kl kc W1 => ∃ g h1 lo, kp = some ⟨g, 0, none⟩ ∧ kl = 1 ∧ W.heap.size + 2 ≤ lo ∧ Row W1 g ∧ PR w0 W1 (rxOf x).ps g 0 lo h1 ∧ lo ≤ g ∧ h1 ≤ g) (fun kp kl kc nu W2 => ∃ g h1 lo, kp = some ⟨g, 0, none⟩ ∧ kl = 1 ∧ W.heap.size + 2 ≤ lo ∧ Row W2 g ∧ PR w0 W2 (rxOf x).ps g 0 lo h1 ∧ lo ≤ g ∧ h1 ≤ g ∧ nu = (Rx.one d.k (rxOf x)).nul) ?_ ?_).mono ?_
   · intro X hX hXs
     rw [show d.kl = 1 from e3]
     refine (parts_one66 _ x ih w0 X d.kp d.kc hK (hB.trans (hX.mono hB.size))).mono ?_
     rintro e W1 ⟨u, rfl, ho⟩
     obtain ⟨g, cap, h1, rfl, hr, hp, hg1, hg2, hb⟩ := one_end ho
     exact ⟨_, _, _, rfl, hb, g, h1, X.heap.size, rfl, rfl, hXs, hr, hp, hg1, hg2⟩
   · rintro kp kl kc W1 ⟨g, h1, lo, rfl, rfl, q1, hr, hp, q2, q3⟩
     have hn := hp.tell.1
     rw [(Rx.ps_ok _).2.2.2] at hn
     have hl := hr.lt
     have fin : ∀ (W2 : World), Below W1.heap.size W1 W2 → Row W2 g ∧ PR w0 W2 (rxOf x).ps g 0 lo h1 := fun W2 hb => by
       have hg := hb.block g hl
       obtain ⟨cs, hr⟩ := hr
       exact ⟨⟨cs, hg.trans hr⟩, hp.keep (fun j _ => cell_blk hg _) (fun i _ hi => hb.block i (by omega))⟩
     rcases hk with hk | hk | hk
     · rw [hk]
       refine (partOf_6 d.sp d.sl d.sc g kc _ W1 hn).mono ?_
       rintro e W' ⟨rfl, hb⟩
       exact ⟨true, rfl, hb, g, h1, lo, rfl, rfl, q1, (fin _ hb).1, (fin _ hb).2, q2, q3, (nul_one _ (.inl rfl)).symm⟩
     · rw [hk]
       refine (partOf_7 d.sp d.sl d.sc g kc _ W1 hn).mono ?_
       rintro e W' ⟨rfl, hb⟩
       exact ⟨_, rfl, hb, g, h1, lo, rfl, rfl, q1, (fin _ hb).1, (fin _ hb).2, q2, q3, rfl⟩
     · rw [hk]
       refine (partOf_8 d.sp d.sl d.sc g kc _ W1 hn).mono ?_
       rintro e W' ⟨rfl, hb⟩
       exact ⟨true, rfl, hb, g, h1, lo, rfl, rfl, q1, (fin _ hb).1, (fin _ hb).2, q2, q3, (nul_one _ (.inr rfl)).symm⟩
   · rintro e W' ⟨kp, kl, kc, nu, W2, rfl, ⟨g, h1, lo, rfl, rfl, q1, hr, hp, q2, q3, rfl⟩, hblk, hsz, hb⟩
     have hl := hr.lt
     refine ⟨_, rfl, ⟨d.k, d.sp, d.sl, d.sc, some ⟨g, 0, none⟩, 1, kc, _, false, false, rfl, fun V b o c hv => ?_⟩, hb⟩
     show PR w0 V (rxOf (.mk d.k a s n [x])).ps b o _ _
     rw [rxOf]
     have hs := hb.size
     have hg : V.heap[g]? = W2.heap[g]? := (hv g (by omega) (by omega)).trans (hblk g (by omega))
     have hp' : PR w0 V (rxOf x).ps g 0 lo h1 := hp.keep (fun j _ => cell_blk hg _) (fun i hi1 hi2 => (hv i (by omega) (by omega)).trans (hblk i (by omega)))
     obtain ⟨cs, hr⟩ := hr
     exact pr_one hk c (by omega) (by omega) ⟨cs, hg.trans hr⟩ (hp'.wide (by omega) q3)
 | .mk k a s n [x, y], hV => by
   intro w0 W d hT hB
   rw [Vp] at hV
   obtain ⟨hk, hx, hy⟩ := hV
   have ihx := fwd_any x hx
   have ihy := fwd_any y hy
   obtain ⟨rfl, e2, _, e3, hK⟩ := hT.parts8
   refine (fwd_walk d W (fun kp kl kc W1 => ∃ X : World, W.heap.size + 2 ≤ X.heap.size ∧ Two w0 X (rxOf x).ps (rxOf y).ps (.slice kp kl kc) W1) (fun kp kl kc nu W2 => ∃ X : World, W.heap.size + 2 ≤ X.heap.size ∧ Two w0 X (rxOf x).ps (rxOf y).ps (.slice kp kl kc) W2 ∧ nu = (Rx.two d.k (rxOf x) (rxOf y)).nul) ?_ ?_).mono ?_
   · intro X hX hXs
     rw [show d.kl = 2 from e3]
     refine (parts_two66 _ x y ihx ihy w0 X d.kp d.kc hK (hB.trans (hX.mono hB.size))).mono ?_
     rintro e W1 ⟨u, rfl, ho⟩
     obtain ⟨g, cap, l1, h1, l2, h2, rfl, hrest⟩ := id ho
     exact ⟨_, _, _, rfl, hrest.2.2.2.2.2.2.2.2.1, X, hXs, ho⟩
   · rintro kp kl kc W1 ⟨X, hXs, g, cap, l1, h1, l2, h2, e, hr, hp, hq, i1, i2, i3, i4, i5, hb0, sl1, sl2⟩
     cases e
     have hn := hp.tell.1
     have hm := hq.tell.1
     rw [(Rx.ps_ok _).2.2.2] at hn hm
     simp only [Nat.zero_add, Nat.reduceAdd] at hn hm
     have fin : ∀ (W2 : World), Below W1.heap.size W1 W2 → Two w0 X (rxOf x).ps (rxOf y).ps (.slice (some ⟨g, 0, none⟩) 2 kc) W2 := fun W2 hb => by
       have hg := hb.block g i5
       have hs := hb.size
       have hx0 := hb0.size
       obtain ⟨cs, hr⟩ := hr
       exact ⟨g, kc, l1, h1, l2, h2, rfl, ⟨cs, hg.trans hr⟩, hp.keep (fun j _ => cell_blk hg _) (fun i _ hi => hb.block i (by omega)), hq.keep (fun j _ => cell_blk hg _) (fun i _ hi => hb.block i (by omega)), by omega, by omega, i3, i4, by omega, hb0.trans (hb.mono hx0), sl1.keep hg, sl2.keep hg⟩
     rcases hk with hk | hk
     · rw [hk]
       refine (partOf_4 d.sp d.sl d.sc g kc _ _ W1 hn hm).mono ?_
       rintro e W' ⟨rfl, hb⟩
       exact ⟨_, rfl, hb, X, hXs, fin _ hb, rfl⟩
     · rw [hk]
       refine (partOf_5 d.sp d.sl d.sc g kc _ _ W1 hn hm).mono ?_
       rintro e W' ⟨rfl, hb⟩
       exact ⟨_, rfl, hb, X, hXs, fin _ hb, rfl⟩
   · rintro e W' ⟨kp, kl, kc, nu, W2, rfl, ⟨X, hXs, ⟨g, cap, l1, h1, l2, h2, e, hr, hp, hq, i1, i2, i3, i4, i5, hb0, _, _⟩, rfl⟩, hblk, hsz, hb⟩
     cases e
     refine ⟨_, rfl, ⟨d.k, d.sp, d.sl, d.sc, some ⟨g, 0, none⟩, 2, kc, _, false, false, rfl, fun V b o c hv => ?_⟩, hb⟩
     show PR w0 V (rxOf (.mk d.k a s n [x, y])).ps b o _ _
     rw [rxOf]
     have hs := hb.size
     have hg : V.heap[g]? = W2.heap[g]? := (hv g (by omega) (by omega)).trans (hblk g (by omega))
     have hblk2 : ∀ i, X.heap.size ≤ i → i < W2.heap.size → V.heap[i]? = W2.heap[i]? := fun i hi1 hi2 => (hv i (by omega) (by omega)).trans (hblk i (by omega))
     obtain ⟨cs, hr⟩ := hr
     exact pr_two hk c (by omega) (by omega) ⟨cs, hg.trans hr⟩ (hp.keep (fun j _ => cell_blk hg _) (fun i hi1 hi2 => hblk2 i (by omega) (by omega))) (hq.keep (fun j _ => cell_blk hg _) (fun i hi1 hi2 => hblk2 i (by omega) (by omega))) (by omega) (by omega) i3
 | .mk k a s n (x :: y :: z :: ks), hV => by rw [Vp] at hV; exact hV.elim
structure Swp (g : Nat) (w w' : World) : Prop where
 x : ∀ j, j < 6 → w'.cell? ⟨g, j, none⟩ = w.cell? ⟨g, 6 + j, none⟩
 y : ∀ j, j < 6 → w'.cell? ⟨g, 6 + j, none⟩ = w.cell? ⟨g, j, none⟩
 blk : ∀ k, k ≠ g → w'.heap[k]? = w.heap[k]?
 row : Row w' g
 size : w'.heap.size = w.heap.size
 os : w'.os = w.os
 tape : w'.tape = w.tape
 output : w'.output = w.output
theorem Swp.drew {g : Nat} {w w' : World} (h : Swp g w w') : Swp g w w'.drew := ⟨h.x, h.y, h.blk, h.row, h.size, h.os, h.tape, h.output⟩
theorem Swp.below {g n : Nat} {w w' : World} (h : Swp g w w') (hn : n ≤ g) : Below n w w' := ⟨h.os, h.tape, h.output, Nat.le_of_eq h.size.symm, fun k hk => h.blk k (by omega)⟩
end Go.Proofs.YtemanednddhfaaaGreatDoor
namespace Go.Proofs.YtemanednddhfaaaGreatDoor
namespace PA
open E (Star)
inductive Run (fo : Nat → Nat → Prop) (se : Nat → Int → Prop) (l : Nat → Prop) : Nat → List Int → Prop
  | stop {i : Nat} : l i → Run fo se l i []
  | go {i j : Nat} {r : Int} {xs : List Int} : fo i j → se j r → Run fo se l j xs → Run fo se l i (r :: xs)
def Lg (fo : Nat → Nat → Prop) (se : Nat → Int → Prop) (f l : Nat → Prop) (n : Prop) (xs : List Int) : Prop :=
  (xs = [] ∧ n) ∨ ∃ j r ys, xs = r :: ys ∧ f j ∧ se j r ∧ Run fo se l j ys
variable {fo fo' foA foB : Nat → Nat → Prop} {se se' : Nat → Int → Prop} {f l l' fA lA fB lB : Nat → Prop} {n nA nB : Prop} {D : Nat → Prop}
theorem run_on (hc : ∀ i, D i → ∀ j, fo i j → D j) (hf : ∀ i, D i → ∀ j, fo i j → fo' i j) (hs : ∀ i, D i → ∀ r, se i r → se' i r) (hl : ∀ i, D i → l i → l' i) {i : Nat} {xs : List Int} (h : Run fo se l i xs) : D i → Run fo' se' l' i xs := by
  induction h with
  | stop h => exact fun hd => .stop (hl _ hd h)
  | go h1 h2 _ ih => exact fun hd => .go (hf _ hd _ h1) (hs _ (hc _ hd _ h1) _ h2) (ih (hc _ hd _ h1))
theorem run_iff (hc : ∀ i, D i → ∀ j, fo i j → D j) (hf : ∀ i, D i → ∀ j, fo i j ↔ fo' i j) (hs : ∀ i, D i → ∀ r, se i r ↔ se' i r) (hl : ∀ i, D i → (l i ↔ l' i)) {i : Nat} {xs : List Int} (hd : D i) : Run fo se l i xs ↔ Run fo' se' l' i xs :=
  ⟨fun h => run_on hc (fun i h j => (hf i h j).1) (fun i h r => (hs i h r).1) (fun i h => (hl i h).1) h hd,
   fun h => run_on (fun i h j k => hc i h j ((hf i h j).2 k)) (fun i h j => (hf i h j).2) (fun i h r => (hs i h r).2) (fun i h => (hl i h).2) h hd⟩
theorem lg_iff (hf0 : ∀ i, f i → D i) (hc : ∀ i, D i → ∀ j, fo i j → D j) (hf : ∀ i, D i → ∀ j, fo i j ↔ fo' i j) (hs : ∀ i, D i → ∀ r, se i r ↔ se' i r) (hl : ∀ i, D i → (l i ↔ l' i)) (xs : List Int) : Lg fo se f l n xs ↔ Lg fo' se' f l' n xs := by
  unfold Lg
  refine or_congr Iff.rfl (exists_congr fun j => exists_congr fun r => exists_congr fun ys => and_congr_right fun _ => ?_)
  constructor
  · rintro ⟨h1, h2, h3⟩; exact ⟨h1, (hs j (hf0 j h1) r).1 h2, (run_iff hc hf hs hl (hf0 j h1)).1 h3⟩
  · rintro ⟨h1, h2, h3⟩; exact ⟨h1, (hs j (hf0 j h1) r).2 h2, (run_iff hc hf hs hl (hf0 j h1)).2 h3⟩
/-- One behind the other. -/
theorem run_cat {P Q : Nat → Prop} (hPQ : ∀ i, P i → ¬ Q i) (hA : ∀ i, P i → ∀ j, foA i j → P j) (hB : ∀ i, Q i → ∀ j, foB i j → Q j) (hfB : ∀ i, fB i → Q i) (hlA : ∀ i, lA i → P i) (hlB : ∀ i, lB i → Q i)
    (kP : ∀ i, P i → ∀ j, fo i j ↔ foA i j ∨ (lA i ∧ fB j)) (kQ : ∀ i, Q i → ∀ j, fo i j ↔ foB i j) (kl : ∀ i, l i ↔ lB i ∨ (nB ∧ lA i)) {i : Nat} (hi : P i) (xs : List Int) :
    Run fo se l i xs ↔ ∃ x y, xs = x ++ y ∧ Run foA se lA i x ∧ Lg foB se fB lB nB y := by
  have hQ : ∀ {j : Nat} {ys : List Int}, Q j → (Run fo se l j ys ↔ Run foB se lB j ys) := fun hj => run_iff (D := Q) (fun i h j k => hB i h j ((kQ i h j).1 k)) kQ (fun _ _ _ => Iff.rfl) (fun i h => by
    rw [kl]
    exact ⟨fun h1 => h1.elim id fun h2 => absurd h (hPQ i (hlA i h2.2)), .inl⟩) hj
  constructor
  · intro h
    induction h with
    | stop h =>
      rename_i i
      rcases (kl i).1 h with h1 | ⟨h1, h2⟩
      · exact absurd (hlB i h1) (hPQ i hi)
      · exact ⟨[], [], rfl, .stop h2, .inl ⟨rfl, h1⟩⟩
    | go h1 h2 h3 ih =>
      rename_i i j r xs
      rcases (kP i hi j).1 h1 with h4 | ⟨h4, h5⟩
      · obtain ⟨x, y, rfl, h6, h7⟩ := ih (hA i hi j h4)
        exact ⟨r :: x, y, rfl, .go h4 h2 h6, h7⟩
      · exact ⟨[], r :: xs, rfl, .stop h4, .inr ⟨j, r, xs, rfl, h5, h2, (hQ (hfB j h5)).1 h3⟩⟩
  · rintro ⟨x, y, rfl, h, hy⟩
    induction h with
    | stop h =>
      rename_i i
      rcases hy with ⟨rfl, h1⟩ | ⟨j, r, ys, rfl, h1, h2, h3⟩
      · exact .stop ((kl i).2 (.inr ⟨h1, h⟩))
      · exact .go ((kP i hi j).2 (.inr ⟨h, h1⟩)) h2 ((hQ (hfB j h1)).2 h3)
    | go h1 h2 h3 ih =>
      rename_i i j r xs
      exact .go ((kP i hi j).2 (.inl h1)) h2 (ih (hA i hi j h1))
theorem lg_cat {P Q : Nat → Prop} (hPQ : ∀ i, P i → ¬ Q i) (hA : ∀ i, P i → ∀ j, foA i j → P j) (hB : ∀ i, Q i → ∀ j, foB i j → Q j) (hfA : ∀ i, fA i → P i) (hfB : ∀ i, fB i → Q i) (hlA : ∀ i, lA i → P i) (hlB : ∀ i, lB i → Q i)
    (kP : ∀ i, P i → ∀ j, fo i j ↔ foA i j ∨ (lA i ∧ fB j)) (kQ : ∀ i, Q i → ∀ j, fo i j ↔ foB i j) (kl : ∀ i, l i ↔ lB i ∨ (nB ∧ lA i)) (kf : ∀ i, f i ↔ fA i ∨ (nA ∧ fB i)) (kn : n ↔ nA ∧ nB) (xs : List Int) :
    Lg fo se f l n xs ↔ ∃ x y, xs = x ++ y ∧ Lg foA se fA lA nA x ∧ Lg foB se fB lB nB y := by
  have hQ : ∀ {j : Nat} {ys : List Int}, Q j → (Run fo se l j ys ↔ Run foB se lB j ys) := fun hj => run_iff (D := Q) (fun i h j k => hB i h j ((kQ i h j).1 k)) kQ (fun _ _ _ => Iff.rfl) (fun i h => by
    rw [kl]
    exact ⟨fun h1 => h1.elim id fun h2 => absurd h (hPQ i (hlA i h2.2)), .inl⟩) hj
  have hP := fun {i : Nat} (hi : P i) (xs : List Int) => run_cat (se := se) hPQ hA hB hfB hlA hlB kP kQ kl hi xs
  constructor
  · rintro (⟨rfl, h⟩ | ⟨j, r, ys, rfl, h1, h2, h3⟩)
    · exact ⟨[], [], rfl, .inl ⟨rfl, (kn.1 h).1⟩, .inl ⟨rfl, (kn.1 h).2⟩⟩
    · rcases (kf j).1 h1 with h4 | ⟨h4, h5⟩
      · obtain ⟨x, y, rfl, h6, h7⟩ := (hP (hfA j h4) ys).1 h3
        exact ⟨r :: x, y, rfl, .inr ⟨j, r, x, rfl, h4, h2, h6⟩, h7⟩
      · exact ⟨[], r :: ys, rfl, .inl ⟨rfl, h4⟩, .inr ⟨j, r, ys, rfl, h5, h2, (hQ (hfB j h5)).1 h3⟩⟩
  · rintro ⟨x, y, rfl, hx, hy⟩
    rcases hx with ⟨rfl, h⟩ | ⟨j, r, ys, rfl, h1, h2, h3⟩
    · rcases hy with ⟨rfl, h1⟩ | ⟨j, r, ys, rfl, h1, h2, h3⟩
      · exact .inl ⟨rfl, kn.2 ⟨h, h1⟩⟩
      · exact .inr ⟨j, r, ys, rfl, (kf j).2 (.inr ⟨h, h1⟩), h2, (hQ (hfB j h1)).2 h3⟩
    · exact .inr ⟨j, r, ys ++ y, rfl, (kf j).2 (.inl h1), h2, (hP (hfA j h1) _).2 ⟨ys, y, rfl, h3, hy⟩⟩
/-- One of two. -/
theorem lg_alt {P Q : Nat → Prop} (hPQ : ∀ i, P i → ¬ Q i) (hA : ∀ i, P i → ∀ j, foA i j → P j) (hB : ∀ i, Q i → ∀ j, foB i j → Q j) (hfA : ∀ i, fA i → P i) (hfB : ∀ i, fB i → Q i) (hlA : ∀ i, lA i → P i) (hlB : ∀ i, lB i → Q i)
    (kP : ∀ i, P i → ∀ j, fo i j ↔ foA i j) (kQ : ∀ i, Q i → ∀ j, fo i j ↔ foB i j) (kl : ∀ i, l i ↔ lA i ∨ lB i) (kf : ∀ i, f i ↔ fA i ∨ fB i) (kn : n ↔ nA ∨ nB) (xs : List Int) :
    Lg fo se f l n xs ↔ Lg foA se fA lA nA xs ∨ Lg foB se fB lB nB xs := by
  have hQ : ∀ {j : Nat} {ys : List Int}, Q j → (Run fo se l j ys ↔ Run foB se lB j ys) := fun hj => run_iff (D := Q) (fun i h j k => hB i h j ((kQ i h j).1 k)) kQ (fun _ _ _ => Iff.rfl) (fun i h => by
    rw [kl]
    exact ⟨fun h1 => h1.elim (fun h2 => absurd h (hPQ i (hlA i h2))) id, .inr⟩) hj
  have hP : ∀ {j : Nat} {ys : List Int}, P j → (Run fo se l j ys ↔ Run foA se lA j ys) := fun hj => run_iff (D := P) (fun i h j k => hA i h j ((kP i h j).1 k)) kP (fun _ _ _ => Iff.rfl) (fun i h => by
    rw [kl]
    exact ⟨fun h1 => h1.elim id (fun h2 => absurd (hlB i h2) (hPQ i h)), .inl⟩) hj
  constructor
  · rintro (⟨rfl, h⟩ | ⟨j, r, ys, rfl, h1, h2, h3⟩)
    · exact (kn.1 h).elim (fun h => .inl (.inl ⟨rfl, h⟩)) fun h => .inr (.inl ⟨rfl, h⟩)
    · rcases (kf j).1 h1 with h4 | h4
      · exact .inl (.inr ⟨j, r, ys, rfl, h4, h2, (hP (hfA j h4)).1 h3⟩)
      · exact .inr (.inr ⟨j, r, ys, rfl, h4, h2, (hQ (hfB j h4)).1 h3⟩)
  · rintro ((⟨rfl, h⟩ | ⟨j, r, ys, rfl, h1, h2, h3⟩) | (⟨rfl, h⟩ | ⟨j, r, ys, rfl, h1, h2, h3⟩))
    · exact .inl ⟨rfl, kn.2 (.inl h)⟩
    · exact .inr ⟨j, r, ys, rfl, (kf j).2 (.inl h1), h2, (hP (hfA j h1)).2 h3⟩
    · exact .inl ⟨rfl, kn.2 (.inr h)⟩
    · exact .inr ⟨j, r, ys, rfl, (kf j).2 (.inr h1), h2, (hQ (hfB j h1)).2 h3⟩
/-- Again and again. -/
theorem run_row {P : Nat → Prop} (hA : ∀ i, P i → ∀ j, foA i j → P j) (hf : ∀ i, f i → P i) (kP : ∀ i, P i → ∀ j, fo i j ↔ foA i j ∨ (l i ∧ f j)) {i : Nat} (hi : P i) (xs : List Int) :
    Run fo se l i xs ↔ ∃ x y, xs = x ++ y ∧ Run foA se l i x ∧ Star (Lg foA se f l n) y := by
  constructor
  · intro h
    induction h with
    | stop h => exact ⟨[], [], rfl, .stop h, .nil⟩
    | go h1 h2 h3 ih =>
      rename_i i j r xs
      rcases (kP i hi j).1 h1 with h4 | ⟨h4, h5⟩
      · obtain ⟨x, y, rfl, h6, h7⟩ := ih (hA i hi j h4)
        exact ⟨r :: x, y, rfl, .go h4 h2 h6, h7⟩
      · obtain ⟨x, y, rfl, h6, h7⟩ := ih (hf j h5)
        exact ⟨[], r :: (x ++ y), rfl, .stop h4, Star.app (x := r :: x) (.inr ⟨j, r, x, rfl, h5, h2, h6⟩) h7⟩
  · rintro ⟨x, y, rfl, h, hy⟩
    induction hy generalizing i x with
    | nil =>
      rw [List.append_nil]
      exact run_on hA (fun i h j k => (kP i h j).2 (.inl k)) (fun _ _ _ k => k) (fun _ _ k => k) h hi
    | app hu hv ih =>
      rename_i u v
      have key : ∀ {i : Nat} {x : List Int}, P i → Run foA se l i x → Run fo se l i (x ++ v) := fun hi h => ih hi _ h
      rcases hu with ⟨rfl, _⟩ | ⟨j, r, u', rfl, h1, h2, h3⟩
      · exact key hi h
      · clear ih hv
        induction h with
        | stop h => exact .go ((kP _ hi j).2 (.inr ⟨h, h1⟩)) h2 (key (hf j h1) h3)
        | go h4 h5 h6 ih => exact .go ((kP _ hi _).2 (.inl h4)) h5 (ih (hA _ hi _ h4))
theorem lg_row {P : Nat → Prop} (hA : ∀ i, P i → ∀ j, foA i j → P j) (hf : ∀ i, f i → P i) (kP : ∀ i, P i → ∀ j, fo i j ↔ foA i j ∨ (l i ∧ f j)) (xs : List Int) :
    Lg fo se f l n xs ↔ ∃ x y, xs = x ++ y ∧ Lg foA se f l n x ∧ Star (Lg foA se f l n) y := by
  have hP := fun {i : Nat} (hi : P i) (xs : List Int) => run_row (se := se) (n := n) hA hf kP hi xs
  constructor
  · rintro (⟨rfl, h⟩ | ⟨j, r, ys, rfl, h1, h2, h3⟩)
    · exact ⟨[], [], rfl, .inl ⟨rfl, h⟩, .nil⟩
    · obtain ⟨x, y, rfl, h6, h7⟩ := (hP (hf j h1) ys).1 h3
      exact ⟨r :: x, y, rfl, .inr ⟨j, r, x, rfl, h1, h2, h6⟩, h7⟩
  · rintro ⟨x, y, rfl, hx, hy⟩
    rcases hx with ⟨rfl, h⟩ | ⟨j, r, ys, rfl, h1, h2, h3⟩
    · rcases hy.first with rfl | ⟨u, v, rfl, hu, hv, hne⟩
      · exact .inl ⟨rfl, h⟩
      · rcases hu with ⟨rfl, _⟩ | ⟨j, r, ys, rfl, h1, h2, h3⟩
        · exact absurd rfl hne
        · exact .inr ⟨j, r, ys ++ v, rfl, h1, h2, (hP (hf j h1) _).2 ⟨ys, v, rfl, h3, hv⟩⟩
    · exact .inr ⟨j, r, ys ++ y, rfl, h1, h2, (hP (hf j h1) _).2 ⟨ys, y, rfl, h3, hy⟩⟩
theorem lg_opt (xs : List Int) : Lg fo se f l True xs ↔ xs = [] ∨ Lg fo se f l n xs := by
  unfold Lg
  constructor
  · rintro (⟨h, _⟩ | h)
    · exact .inl h
    · exact .inr (.inr h)
  · rintro (h | ⟨h, _⟩ | h)
    · exact .inl ⟨h, trivial⟩
    · exact .inl ⟨h, trivial⟩
    · exact .inr h
theorem plus_opt {L : List Int → Prop} (xs : List Int) : (xs = [] ∨ ∃ x y, xs = x ++ y ∧ L x ∧ Star L y) ↔ Star L xs := by
  constructor
  · rintro (rfl | ⟨x, y, rfl, h1, h2⟩)
    · exact .nil
    · exact .app h1 h2
  · intro h
    rcases h.first with rfl | ⟨x, y, rfl, h1, h2, _⟩
    · exact .inl rfl
    · exact .inr ⟨x, y, rfl, h1, h2⟩
end PA
end Go.Proofs.YtemanednddhfaaaGreatDoor
namespace Go.Proofs.YtemanednddhfaaaGreatDoor
open E (T Rx rxOf Star)
namespace PA
def fo (st : List Pl) (i j : Nat) : Prop := ((st[i]?.map fun p : Pl => p.2).getD 0).testBit j = true
def se (st : List Pl) (i : Nat) (r : Int) : Prop := (st[i]?.map fun p => U.S.hasB (U.S.goods p.1) r).getD false = true
def bt (m i : Nat) : Prop := m.testBit i = true
def LgM (st : List Pl) (x : En) : List Int → Prop := Lg (fo st) (se st) (bt x.f) (bt x.l) (x.n = true)
theorem bt_or (a b i : Nat) : bt (a ||| b) i ↔ bt a i ∨ bt b i := by unfold bt; rw [Nat.testBit_or, Bool.or_eq_true]
theorem bt_two (a i : Nat) : bt (2 ^ a) i ↔ i = a := by unfold bt; rw [Nat.testBit_two_pow]; simp [eq_comm]
theorem bt_zero (i : Nat) : ¬ bt 0 i := by unfold bt; simp
theorem join_at (a b : Nat) (st : List Pl) (i : Nat) : (join a b st)[i]? = st[i]?.map fun p => if a.testBit i then (p.1, p.2 ||| b) else p := by unfold join; rw [List.getElem?_mapIdx]
theorem join_fo (a b : Nat) (st : List Pl) {i : Nat} (h : i < st.length) (j : Nat) : fo (join a b st) i j ↔ fo st i j ∨ (bt a i ∧ bt b j) := by
  unfold fo bt
  rw [join_at, List.getElem?_eq_getElem h]
  simp only [Option.map_some, Option.getD_some]
  cases a.testBit i with
  | true => simp [Nat.testBit_or]
  | false => simp
theorem join_se (a b : Nat) (st : List Pl) (i : Nat) (r : Int) : se (join a b st) i r ↔ se st i r := by
  unfold se
  rw [join_at]
  cases st[i]? with
  | none => rfl
  | some p => simp only [Option.map_some, Option.getD_some]; cases a.testBit i <;> rfl
theorem same_fo {st st' : List Pl} {i : Nat} (h : st'[i]? = st[i]?) (j : Nat) : fo st' i j ↔ fo st i j := by unfold fo; rw [h]
theorem same_se {st st' : List Pl} {i : Nat} (h : st'[i]? = st[i]?) (r : Int) : se st' i r ↔ se st i r := by unfold se; rw [h]
structure Seg (g : Tf) (c : Nat) (L : List Int → Prop) : Prop where
  len : ∀ st, (g st).1.length = st.length + c
  old : ∀ st, ∀ i < st.length, (g st).1[i]? = st[i]?
  f : ∀ st i, bt (g st).2.f i → st.length ≤ i ∧ i < st.length + c
  l : ∀ st i, bt (g st).2.l i → st.length ≤ i ∧ i < st.length + c
  fol : ∀ st i, st.length ≤ i ∧ i < st.length + c → ∀ j, fo (g st).1 i j → st.length ≤ j ∧ j < st.length + c
  lang : ∀ st xs, LgM (g st).1 (g st).2 xs ↔ L xs
theorem seg_nil : Seg nil 0 (fun u => u = []) :=
  ⟨fun _ => rfl, fun _ _ _ => rfl, fun _ i h => absurd h (bt_zero i), fun _ i h => absurd h (bt_zero i), fun _ i h => by omega, fun st xs => by
    unfold LgM Lg
    constructor
    · rintro (⟨h, _⟩ | ⟨j, r, ys, _, h, _⟩)
      · exact h
      · exact absurd h (bt_zero j)
    · intro h; exact .inl ⟨h, rfl⟩⟩
theorem seg_one (s : List U.S.R) : Seg (fun st => (st ++ [(s, 0)], ⟨2 ^ st.length, 2 ^ st.length, false⟩)) 1 (fun u => ∃ r, u = [r] ∧ E.inS s r = true) := by
  have e : ∀ st : List Pl, (st ++ [(s, 0)])[st.length]? = some (s, 0) := fun st => by simp
  refine ⟨fun st => by simp, fun st i h => List.getElem?_append_left h, fun st i h => by have := (bt_two _ _).1 h; omega, fun st i h => by have := (bt_two _ _).1 h; omega, fun st i h j hj => ?_, fun st xs => ?_⟩
  · obtain rfl : i = st.length := by omega
    unfold fo at hj
    rw [e] at hj
    simp at hj
  · unfold LgM Lg
    constructor
    · rintro (⟨_, h⟩ | ⟨j, r, ys, rfl, h1, h2, h3⟩)
      · cases h
      · obtain rfl := (bt_two _ _).1 h1
        have hr : E.inS s r = true := by unfold se at h2; rw [e] at h2; exact h2
        cases h3 with
        | stop _ => exact ⟨r, rfl, hr⟩
        | go h4 _ _ =>
          unfold fo at h4
          rw [e] at h4
          simp at h4
    · rintro ⟨r, rfl, hr⟩
      refine .inr ⟨st.length, r, [], rfl, (bt_two _ _).2 rfl, ?_, .stop ((bt_two _ _).2 rfl)⟩
      unfold se
      rw [e]
      exact hr
theorem seg_cat {g h : Tf} {a b : Nat} {L M : List Int → Prop} (hg : Seg g a L) (hh : Seg h b M) :
    Seg (fun st => (join (g st).2.l (h (g st).1).2.f (h (g st).1).1, ahead (g st).2 (h (g st).1).2)) (a + b) (fun u => ∃ x y, u = x ++ y ∧ L x ∧ M y) := by
  have hl1 : ∀ st, (g st).1.length = st.length + a := hg.len
  have hl2 : ∀ st, (h (g st).1).1.length = st.length + (a + b) := fun st => by rw [hh.len, hl1]; omega
  have fA := fun st i (k : bt (g st).2.f i) => hg.f st i k
  have lA := fun st i (k : bt (g st).2.l i) => hg.l st i k
  have fB : ∀ st i, bt (h (g st).1).2.f i → st.length + a ≤ i ∧ i < st.length + (a + b) := fun st i k => by have := hh.f _ i k; rw [hl1] at this; omega
  have lB : ∀ st i, bt (h (g st).1).2.l i → st.length + a ≤ i ∧ i < st.length + (a + b) := fun st i k => by have := hh.l _ i k; rw [hl1] at this; omega
  have oldB : ∀ st i, i < st.length + a → (h (g st).1).1[i]? = (g st).1[i]? := fun st i k => hh.old _ i (by rw [hl1]; exact k)
  have folB : ∀ st i, st.length + a ≤ i ∧ i < st.length + (a + b) → ∀ j, fo (h (g st).1).1 i j → st.length + a ≤ j ∧ j < st.length + (a + b) := fun st i k j hj => by have := hh.fol _ i (by rw [hl1]; omega) j hj; rw [hl1] at this; omega
  have kf : ∀ st i, bt (ahead (g st).2 (h (g st).1).2).f i ↔ bt (g st).2.f i ∨ ((g st).2.n = true ∧ bt (h (g st).1).2.f i) := fun st i => by
    unfold ahead
    cases (g st).2.n <;> simp [bt_or]
  have kl : ∀ st i, bt (ahead (g st).2 (h (g st).1).2).l i ↔ bt (h (g st).1).2.l i ∨ ((h (g st).1).2.n = true ∧ bt (g st).2.l i) := fun st i => by
    unfold ahead
    cases (h (g st).1).2.n <;> simp [bt_or]
  have kP : ∀ st i, st.length ≤ i ∧ i < st.length + a → ∀ j, fo (join (g st).2.l (h (g st).1).2.f (h (g st).1).1) i j ↔ fo (g st).1 i j ∨ (bt (g st).2.l i ∧ bt (h (g st).1).2.f j) := fun st i k j => by
    rw [join_fo _ _ _ (by rw [hl2]; omega), same_fo (oldB st i k.2)]
  have kQ : ∀ st i, st.length + a ≤ i ∧ i < st.length + (a + b) → ∀ j, fo (join (g st).2.l (h (g st).1).2.f (h (g st).1).1) i j ↔ fo (h (g st).1).1 i j := fun st i k j => by
    rw [join_fo _ _ _ (by rw [hl2]; omega)]
    exact ⟨fun q => q.elim id fun q => by have := lA st i q.1; omega, .inl⟩
  refine ⟨fun st => by rw [join_length]; exact hl2 st, fun st i k => ?_, fun st i k => ?_, fun st i k => ?_, fun st i k j hj => ?_, fun st xs => ?_⟩
  · show (join _ _ _)[i]? = _
    rw [join_at, oldB st i (by omega), hg.old st i k]
    cases hs : st[i]? with
    | none => rfl
    | some p =>
      have : (g st).2.l.testBit i = false := by
        cases hb : (g st).2.l.testBit i with
        | false => rfl
        | true => have := lA st i hb; omega
      simp [this]
  · rcases (kf st i).1 k with q | ⟨_, q⟩
    · have := fA st i q; omega
    · have := fB st i q; omega
  · rcases (kl st i).1 k with q | ⟨_, q⟩
    · have := lB st i q; omega
    · have := lA st i q; omega
  · by_cases hp : i < st.length + a
    · rcases (kP st i ⟨k.1, hp⟩ j).1 hj with q | ⟨_, q⟩
      · have := hg.fol st i ⟨k.1, hp⟩ j q; omega
      · have := fB st j q; omega
    · have := folB st i ⟨by omega, k.2⟩ j ((kQ st i ⟨by omega, k.2⟩ j).1 hj); omega
  · unfold LgM
    rw [lg_cat (P := fun i => st.length ≤ i ∧ i < st.length + a) (Q := fun i => st.length + a ≤ i ∧ i < st.length + (a + b)) (nA := (g st).2.n = true) (nB := (h (g st).1).2.n = true)
      (fun i p q => by omega) (hg.fol st) (folB st) (fA st) (fB st) (lA st) (lB st) (kP st) (kQ st) (kl st) (kf st) (by unfold ahead; simp)]
    refine exists_congr fun x => exists_congr fun y => and_congr_right fun _ => and_congr ?_ ?_
    · rw [← hg.lang st x]
      unfold LgM
      exact (lg_iff (D := fun i => st.length ≤ i ∧ i < st.length + a) (fA st) (hg.fol st) (fun _ _ _ => Iff.rfl) (fun i k r => by rw [join_se, same_se (oldB st i k.2)]) (fun _ _ => Iff.rfl) x)
    · rw [← hh.lang (g st).1 y]
      unfold LgM
      exact (lg_iff (D := fun i => st.length + a ≤ i ∧ i < st.length + (a + b)) (fB st) (folB st) (fun _ _ _ => Iff.rfl) (fun i k r => by rw [join_se]) (fun _ _ => Iff.rfl) y)
theorem seg_alt {g h : Tf} {a b : Nat} {L M : List Int → Prop} (hg : Seg g a L) (hh : Seg h b M) :
    Seg (fun st => ((h (g st).1).1, or (g st).2 (h (g st).1).2)) (a + b) (fun u => L u ∨ M u) := by
  have hl1 : ∀ st, (g st).1.length = st.length + a := hg.len
  have hl2 : ∀ st, (h (g st).1).1.length = st.length + (a + b) := fun st => by rw [hh.len, hl1]; omega
  have fA := fun st i (k : bt (g st).2.f i) => hg.f st i k
  have lA := fun st i (k : bt (g st).2.l i) => hg.l st i k
  have fB : ∀ st i, bt (h (g st).1).2.f i → st.length + a ≤ i ∧ i < st.length + (a + b) := fun st i k => by have := hh.f _ i k; rw [hl1] at this; omega
  have lB : ∀ st i, bt (h (g st).1).2.l i → st.length + a ≤ i ∧ i < st.length + (a + b) := fun st i k => by have := hh.l _ i k; rw [hl1] at this; omega
  have oldB : ∀ st i, i < st.length + a → (h (g st).1).1[i]? = (g st).1[i]? := fun st i k => hh.old _ i (by rw [hl1]; exact k)
  have folB : ∀ st i, st.length + a ≤ i ∧ i < st.length + (a + b) → ∀ j, fo (h (g st).1).1 i j → st.length + a ≤ j ∧ j < st.length + (a + b) := fun st i k j hj => by have := hh.fol _ i (by rw [hl1]; omega) j hj; rw [hl1] at this; omega
  have kf : ∀ st i, bt (or (g st).2 (h (g st).1).2).f i ↔ bt (g st).2.f i ∨ bt (h (g st).1).2.f i := fun st i => bt_or _ _ _
  have kl : ∀ st i, bt (or (g st).2 (h (g st).1).2).l i ↔ bt (g st).2.l i ∨ bt (h (g st).1).2.l i := fun st i => bt_or _ _ _
  have kP : ∀ st i, st.length ≤ i ∧ i < st.length + a → ∀ j, fo (h (g st).1).1 i j ↔ fo (g st).1 i j := fun st i k j => same_fo (oldB st i k.2) j
  refine ⟨hl2, fun st i k => by rw [oldB st i (by omega), hg.old st i k], fun st i k => ?_, fun st i k => ?_, fun st i k j hj => ?_, fun st xs => ?_⟩
  · rcases (kf st i).1 k with q | q
    · have := fA st i q; omega
    · have := fB st i q; omega
  · rcases (kl st i).1 k with q | q
    · have := lA st i q; omega
    · have := lB st i q; omega
  · by_cases hp : i < st.length + a
    · have := hg.fol st i ⟨k.1, hp⟩ j ((kP st i ⟨k.1, hp⟩ j).1 hj); omega
    · have := folB st i ⟨by omega, k.2⟩ j hj; omega
  · unfold LgM
    rw [lg_alt (P := fun i => st.length ≤ i ∧ i < st.length + a) (Q := fun i => st.length + a ≤ i ∧ i < st.length + (a + b)) (foA := fo (g st).1) (foB := fo (h (g st).1).1) (nA := (g st).2.n = true) (nB := (h (g st).1).2.n = true)
      (fun i p q => by omega) (hg.fol st) (folB st) (fA st) (fB st) (lA st) (lB st) (kP st) (fun _ _ _ => Iff.rfl) (kl st) (kf st) (by unfold or; simp)]
    refine or_congr ?_ ?_
    · rw [← hg.lang st xs]
      unfold LgM
      exact (lg_iff (D := fun i => st.length ≤ i ∧ i < st.length + a) (fA st) (hg.fol st) (fun _ _ _ => Iff.rfl) (fun i k r => by rw [same_se (oldB st i k.2)]) (fun _ _ => Iff.rfl) xs)
    · rw [← hh.lang (g st).1 xs]
      rfl
theorem seg_row {g : Tf} {a : Nat} {L : List Int → Prop} (hg : Seg g a L) : Seg (row g) a (fun u => ∃ x y, u = x ++ y ∧ L x ∧ Star L y) := by
  have kP : ∀ st i, st.length ≤ i ∧ i < st.length + a → ∀ j, fo (join (g st).2.l (g st).2.f (g st).1) i j ↔ fo (g st).1 i j ∨ (bt (g st).2.l i ∧ bt (g st).2.f j) := fun st i k j => join_fo _ _ _ (by rw [hg.len]; exact k.2) j
  refine ⟨fun st => by rw [row, join_length]; exact hg.len st, fun st i k => ?_, hg.f, hg.l, fun st i k j hj => ?_, fun st xs => ?_⟩
  · show (join _ _ _)[i]? = _
    rw [join_at, hg.old st i k]
    cases hs : st[i]? with
    | none => rfl
    | some p =>
      have : (g st).2.l.testBit i = false := by
        cases hb : (g st).2.l.testBit i with
        | false => rfl
        | true => have := hg.l st i hb; omega
      simp [this]
  · rcases (kP st i k j).1 hj with q | ⟨_, q⟩
    · exact hg.fol st i k j q
    · exact hg.f st j q
  · have e : ∀ u, Lg (fo (g st).1) (se (join (g st).2.l (g st).2.f (g st).1)) (bt (g st).2.f) (bt (g st).2.l) ((g st).2.n = true) u ↔ L u := fun u => by
      rw [← hg.lang st u]
      unfold LgM
      exact lg_iff (D := fun i => st.length ≤ i ∧ i < st.length + a) (hg.f st) (hg.fol st) (fun _ _ _ => Iff.rfl) (fun i k r => by rw [join_se]) (fun _ _ => Iff.rfl) u
    have e2 : Lg (fo (g st).1) (se (join (g st).2.l (g st).2.f (g st).1)) (bt (g st).2.f) (bt (g st).2.l) ((g st).2.n = true) = L := funext fun u => propext (e u)
    show Lg (fo (join (g st).2.l (g st).2.f (g st).1)) (se (join (g st).2.l (g st).2.f (g st).1)) (bt (g st).2.f) (bt (g st).2.l) ((g st).2.n = true) xs ↔ _
    rw [lg_row (P := fun i => st.length ≤ i ∧ i < st.length + a) (hg.fol st) (hg.f st) (kP st), e2]
theorem seg_opt {g : Tf} {a : Nat} {L : List Int → Prop} (hg : Seg g a L) : Seg (fun st => ((g st).1, or (g st).2 none)) a (fun u => u = [] ∨ L u) := by
  have e : ∀ m, m ||| 0 = m := Nat.or_zero
  refine ⟨hg.len, hg.old, fun st i k => hg.f st i (by have := k; simpa [or, none] using this), fun st i k => hg.l st i (by have := k; simpa [or, none] using this), hg.fol, fun st xs => ?_⟩
  rw [← hg.lang st xs]
  unfold LgM
  rw [← lg_opt]
  simp [or, none]
theorem Seg.to {g g' : Tf} {a a' : Nat} {L L' : List Int → Prop} (h : Seg g a L) (hg : g' = g) (ha : a' = a) (hL : ∀ u, L u ↔ L' u) : Seg g' a' L' := by
  subst hg ha
  obtain rfl : L = L' := funext fun u => propext (hL u)
  exact h
theorem seg_add : ∀ (n : Nat) (t : T), SizeOf.sizeOf t < n → Okt t → Seg (add t) (ct t) (rxOf t).L
  | 0, _, h, _ => absurd h (Nat.not_lt_zero _)
  | n + 1, .mk k a s nm ks, h, ho => by
    have ih : ∀ x ∈ ks, Seg (add x) (ct x) (rxOf x).L := fun x hx => seg_add n x (by
      have := List.sizeOf_lt_of_mem hx
      simp at h
      omega) (okt_kid ho hx)
    rw [add_mk, ct_mk]
    by_cases h2 : k = 4 ∨ k = 5
    · obtain ⟨x, y, rfl⟩ : ∃ x y, ks = [x, y] := kids2 ho (by simp [T.kind, E.kidsOf, h2])
      have hx := ih x (by simp)
      have hy := ih y (by simp)
      rw [rxOf]
      rcases h2 with rfl | rfl
      · exact (seg_cat hx hy).to rfl (by simp) fun u => by simp [Rx.L]
      · exact (seg_alt hx hy).to rfl (by simp) fun u => by simp [Rx.L]
    · by_cases h1 : k = 6 ∨ k = 7 ∨ k = 8
      · obtain ⟨x, rfl⟩ : ∃ x, ks = [x] := kids1 ho (by simp [T.kind, E.kidsOf, h2, h1])
        have hx := ih x (by simp)
        rw [rxOf]
        rcases h1 with rfl | rfl | rfl
        · exact (seg_opt (seg_row hx)).to rfl (by simp) fun u => by simp [Rx.L, plus_opt]
        · exact (seg_row hx).to rfl (by simp) fun u => by simp [Rx.L]
        · exact (seg_opt hx).to rfl (by simp) fun u => by simp [Rx.L]
      · obtain rfl : ks = [] := kids0 ho (by simp [T.kind, E.kidsOf, h2, h1])
        rw [rxOf]
        by_cases hk1 : k = 1
        · subst hk1
          exact (seg_one s).to rfl (by simp) fun u => by simp [Rx.L]
        · refine seg_nil.to ?_ (by simp [hk1]) fun u => by simp [Rx.L, hk1]
          funext st
          unfold step
          rw [if_neg hk1, if_neg (by omega), if_neg (by omega), if_neg (by omega), if_neg (by omega), if_neg (by omega)]
          rfl
theorem seg_tree {t : T} (h : Okt t) : Seg (add t) (ct t) (rxOf t).L := seg_add _ t (Nat.lt_succ_self _) h
theorem behind_bit' (a : Au) (s j : Nat) : bt (behind a s) j ↔ (bt s 63 ∧ bt a.w.f j) ∨ ∃ i < a.pl.length, bt s i ∧ bt (fol a i) j := by
  unfold bt behind
  rw [orL_bit, Bool.or_eq_true, List.any_eq_true]
  constructor
  · rintro (h | ⟨i, hi, h⟩)
    · left
      cases hb : s.testBit 63 with
      | true => rw [hb] at h; exact ⟨rfl, h⟩
      | false => rw [hb] at h; simp at h
    · right
      cases hb : s.testBit i with
      | true => rw [hb] at h; exact ⟨i, List.mem_range.1 hi, hb, h⟩
      | false => rw [hb] at h; simp at h
  · rintro (⟨h1, h2⟩ | ⟨i, hi, h1, h2⟩)
    · left; rw [h1]; exact h2
    · right; exact ⟨i, List.mem_range.2 hi, by rw [h1]; exact h2⟩
theorem stp_bit' (a : Au) (s : Nat) (r : Int) (j : Nat) : bt (stp a s r) j ↔ j < a.pl.length ∧ bt (behind a s) j ∧ hasB a r j = true := by
  unfold bt stp
  rw [orL_bit, Nat.zero_testBit, Bool.false_or, List.any_eq_true]
  constructor
  · rintro ⟨i, hi, h⟩
    split at h
    · rename_i hc
      rw [Nat.testBit_two_pow] at h
      obtain rfl : i = j := by simpa using h
      simp only [Bool.and_eq_true] at hc
      exact ⟨List.mem_range.1 hi, hc.1, hc.2⟩
    · simp at h
  · rintro ⟨h1, h2, h3⟩
    refine ⟨j, List.mem_range.2 h1, ?_⟩
    rw [if_pos (by rw [h2, h3]; rfl), Nat.testBit_two_pow]
    simp
theorem meets {s l : Nat} : s &&& l ≠ 0 ↔ ∃ i, bt s i ∧ bt l i := by
  constructor
  · intro h
    by_cases hn : ∃ i, bt s i ∧ bt l i
    · exact hn
    · exfalso
      refine h (Nat.eq_of_testBit_eq fun j => ?_)
      rw [Nat.testBit_and, Nat.zero_testBit]
      cases h1 : s.testBit j with
      | false => rfl
      | true =>
        cases h2 : l.testBit j with
        | false => rfl
        | true => exact absurd ⟨j, h1, h2⟩ hn
  · rintro ⟨i, h1, h2⟩ e
    have := congrArg (fun x => x.testBit i) e
    simp only [Nat.testBit_and, Nat.zero_testBit] at this
    unfold bt at h1 h2
    rw [h1, h2] at this
    cases this
theorem acc_bit {a : Au} {s : Nat} (h : ¬ bt s 63) : acc a s = true ↔ ∃ i, bt s i ∧ bt a.w.l i := by
  have : s.testBit 63 = false := by cases hb : s.testBit 63 with | false => rfl | true => exact absurd hb h
  unfold acc
  rw [this, Bool.false_and, Bool.or_false, decide_eq_true_eq, meets]
theorem bt_lt {s n : Nat} (h : s < 2 ^ n) {i : Nat} (hi : bt s i) : i < n := Nat.lt_of_not_le fun hn => by
  have := Nat.testBit_lt_two_pow (Nat.lt_of_lt_of_le h (Nat.pow_le_pow_right (by decide) hn))
  unfold bt at hi
  rw [this] at hi
  cases hi
theorem run_bits {a : Au} (hg : Good a) (xs : List Int) : ∀ s, s < 2 ^ a.pl.length → (acc a (xs.foldl (fun s r => stp a s r) s) = true ↔ ∃ i, bt s i ∧ Run (fo a.pl) (se a.pl) (bt a.w.l) i xs) := by
  have h63 : ∀ s, s < 2 ^ a.pl.length → ¬ bt s 63 := fun s hs h => by have := bt_lt hs h; have := hg.len; omega
  induction xs with
  | nil =>
    intro s hs
    rw [List.foldl_nil, acc_bit (h63 s hs)]
    refine exists_congr fun i => and_congr_right fun _ => ⟨.stop, fun h => ?_⟩
    cases h with | stop h => exact h
  | cons r xs ih =>
    intro s hs
    rw [List.foldl_cons, ih _ (stp_lt a s r)]
    constructor
    · rintro ⟨j, h1, h2⟩
      obtain ⟨hj, hb, hr⟩ := (stp_bit' a s r j).1 h1
      rcases (behind_bit' a s j).1 hb with ⟨h, _⟩ | ⟨i, hi, h3, h4⟩
      · exact absurd h (h63 s hs)
      · exact ⟨i, h3, .go h4 hr h2⟩
    · rintro ⟨i, h1, h2⟩
      cases h2 with
      | go h3 h4 h5 =>
        rename_i j
        have hi := bt_lt hs h1
        have hj : j < a.pl.length := by
          unfold se at h4
          cases hp : a.pl[j]? with
          | none => rw [hp] at h4; simp at h4
          | some p => exact (List.getElem?_eq_some_iff.1 hp).1
        exact ⟨j, (stp_bit' a s r j).2 ⟨hj, (behind_bit' a s j).2 (.inr ⟨i, hi, h1, h3⟩), h4⟩, h5⟩
theorem bg_63 : bt bg 63 := by unfold bt bg; decide
theorem bg_only {i : Nat} (h : bt bg i) : i = 63 := (bt_two 63 i).1 h
theorem allB_iff {a : Au} (hg : Good a) (xs : List Int) : allB a xs = true ↔ LgM a.pl a.w xs := by
  unfold LgM Lg allB
  cases xs with
  | nil =>
    rw [List.foldl_nil]
    have h0 : ¬ (bg &&& a.w.l ≠ 0) := fun h => by
      obtain ⟨i, h1, h2⟩ := meets.1 h
      have := bt_lt hg.l h2
      have := bg_only h1
      have := hg.len
      omega
    unfold acc
    rw [Bool.or_eq_true, decide_eq_true_eq, show (bg.testBit 63) = true from bg_63, Bool.true_and]
    constructor
    · rintro (h | h)
      · exact absurd h h0
      · exact .inl ⟨rfl, h⟩
    · rintro (⟨_, h⟩ | ⟨_, _, _, h, _⟩)
      · exact .inr h
      · cases h
  | cons r xs =>
    rw [List.foldl_cons, run_bits hg xs _ (stp_lt a bg r)]
    constructor
    · rintro ⟨j, h1, h2⟩
      obtain ⟨hj, hb, hr⟩ := (stp_bit' a bg r j).1 h1
      rcases (behind_bit' a bg j).1 hb with ⟨_, h⟩ | ⟨i, hi, h3, h4⟩
      · exact .inr ⟨j, r, xs, rfl, h, hr, h2⟩
      · have := bg_only h3; have := hg.len; omega
    · rintro (⟨h, _⟩ | ⟨j, r', ys, e, h1, h2, h3⟩)
      · cases h
      · obtain ⟨rfl, rfl⟩ := List.cons.inj e
        have hj := bt_lt hg.f h1
        exact ⟨j, (stp_bit' a bg r j).2 ⟨hj, (behind_bit' a bg j).2 (.inl ⟨bg_63, h1⟩), h2⟩, h3⟩
/-- What the places tell is what is matched. -/
theorem glu {t : T} (h : Acc t) (hc : ct t ≤ 60) (xs : List Int) : allB (auto t) xs = true ↔ (rxOf t).L xs := by
  rw [allB_iff (good_auto h hc), ← (seg_tree (okt_of h.1)).lang [] xs]
  rfl
end PA
end Go.Proofs.YtemanednddhfaaaGreatDoor
