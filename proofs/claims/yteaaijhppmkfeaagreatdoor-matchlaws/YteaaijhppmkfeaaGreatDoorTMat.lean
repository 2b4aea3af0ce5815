/- What an expression matches; a reading of a text, code point by code point, that tells what ends where: plain facts. -/
import Derived.Test.YteaaijhppmkfeaaGreatDoorTUHas
namespace Go.Proofs.YteaaijhppmkfeaaGreatDoor
namespace E
inductive Star (L : List Int → Prop) : List Int → Prop
 | nil : Star L []
 | app {x y : List Int} : L x → Star L y → Star L (x ++ y)
theorem Star.snoc {L : List Int → Prop} {x y : List Int} (h : Star L x) (hy : L y) : Star L (x ++ y) := by
 induction h with
 | nil => simpa using Star.app hy Star.nil
 | app hx _ ih => rw [List.append_assoc]; exact Star.app hx ih
theorem Star.one {L : List Int → Prop} {x : List Int} (h : L x) : Star L x := by simpa using Star.app h Star.nil
theorem Star.join {L : List Int → Prop} {x y : List Int} (h : Star L x) (hy : Star L y) : Star L (x ++ y) := by
 induction h with
 | nil => simpa using hy
 | app hx _ ih => rw [List.append_assoc]; exact Star.app hx ih
theorem Star.last {L : List Int → Prop} {u : List Int} (h : Star L u) : u = [] ∨ ∃ x y, u = x ++ y ∧ Star L x ∧ L y ∧ y ≠ [] := by
 induction h with
 | nil => exact .inl rfl
 | @app x y hx hy ih =>
   rcases ih with rfl | ⟨a, b, rfl, h1, h2, h3⟩
   · by_cases hn : x = []
     · exact .inl (by simp [hn])
     · exact .inr ⟨[], x, by simp, .nil, hx, hn⟩
   · exact .inr ⟨x ++ a, b, by simp, Star.app hx h1, h2, h3⟩
theorem Star.first {L : List Int → Prop} {u : List Int} (h : Star L u) : u = [] ∨ ∃ x y, u = x ++ y ∧ L x ∧ Star L y ∧ x ≠ [] := by
 induction h with
 | nil => exact .inl rfl
 | @app x y hx hy ih =>
   by_cases hn : x = []
   · subst hn; simpa using ih
   · exact .inr ⟨x, y, rfl, hx, hy, hn⟩
inductive Rx where
 | leaf (k : Int) (s : List (Int × Int))
 | one (k : Int) (a : Rx)
 | two (k : Int) (a b : Rx)
def inS (s : List (Int × Int)) (r : Int) : Bool := U.S.hB s r
def Rx.L : Rx → List Int → Prop
 | .leaf k s, u => if k = 1 then ∃ r, u = [r] ∧ inS s r = true else u = []
 | .one k a, u => if k = 8 then u = [] ∨ a.L u else if k = 7 then ∃ x y, u = x ++ y ∧ a.L x ∧ Star a.L y else Star a.L u
 | .two k a b, u => if k = 4 then ∃ x y, u = x ++ y ∧ a.L x ∧ b.L y else a.L u ∨ b.L u
def Rx.nul : Rx → Bool
 | .leaf k _ => !(k == 1)
 | .one k a => if k = 7 then a.nul else true
 | .two k a b => if k = 4 then a.nul && b.nul else a.nul || b.nul
theorem Rx.nul_iff (x : Rx) : x.nul = true ↔ x.L [] := by
 induction x with
 | leaf k s =>
   unfold Rx.nul Rx.L
   by_cases h : k = 1 <;> simp [h]
 | one k a ih =>
   unfold Rx.nul Rx.L
   by_cases h : k = 7
   · subst h
     rw [if_pos rfl, if_neg (by decide), if_pos rfl, ih]
     constructor
     · intro h; exact ⟨[], [], rfl, h, .nil⟩
     · rintro ⟨x, y, e, h1, _⟩
       have := List.append_eq_nil_iff.1 e.symm
       rw [this.1] at h1
       exact h1
   · simp only [if_neg h]
     refine ⟨fun _ => ?_, fun _ => trivial⟩
     by_cases h8 : k = 8
     · rw [if_pos h8]; exact .inl trivial
     · rw [if_neg h8]; exact .nil
 | two k a b iha ihb =>
   unfold Rx.nul Rx.L
   by_cases h : k = 4
   · subst h
     simp only [if_pos, Bool.and_eq_true, iha, ihb]
     constructor
     · rintro ⟨h1, h2⟩; exact ⟨[], [], rfl, h1, h2⟩
     · rintro ⟨x, y, e, h1, h2⟩
       have := List.append_eq_nil_iff.1 e.symm
       rw [this.1] at h1
       rw [this.2] at h2
       exact ⟨h1, h2⟩
   · simp only [if_neg h, Bool.or_eq_true, iha, ihb]
inductive Ps where
 | leaf (k : Int) (s : List (Int × Int)) (nu en go : Bool)
 | one (k : Int) (a : Ps) (nu en go : Bool)
 | two (k : Int) (a b : Ps) (nu en go : Bool)
def Ps.nu : Ps → Bool | .leaf _ _ n _ _ => n | .one _ _ n _ _ => n | .two _ _ _ n _ _ => n
def Ps.en : Ps → Bool | .leaf _ _ _ e _ => e | .one _ _ _ e _ => e | .two _ _ _ _ e _ => e
def Ps.go : Ps → Bool | .leaf _ _ _ _ g => g | .one _ _ _ _ g => g | .two _ _ _ _ _ g => g
def Rx.ps : Rx → Ps
 | .leaf k s => .leaf k s (!(k == 1)) false false
 | .one k a => .one k a.ps (Rx.one k a).nul false false
 | .two k a b => .two k a.ps b.ps (Rx.two k a b).nul false false
def Ps.rd : Ps → Int → Bool → Ps
 | .leaf k s n e _, r, b => let e' := if k = 1 then b && inS s r else e; .leaf k s n e' e'
 | .one k a n _ _, r, b => let a' := a.rd r (if k = 8 then b else b || a.en); .one k a' n a'.en (a'.en || a'.go)
 | .two k x y n _ _, r, b =>
   let x' := x.rd r b
   let y' := y.rd r (if k = 4 then b && x.nu || x.en else b)
   let e' := if k = 4 then y'.en || x'.en && y'.nu else x'.en || y'.en
   .two k x' y' n e' (e' || x'.go || y'.go)
def Ps.read : Ps → Int → Bool → Ps
 | .leaf k s n e g, r, b => if !b && !g then .leaf k s n e g else let e' := if k = 1 then b && inS s r else e; .leaf k s n e' e'
 | .one k a n e g, r, b => if !b && !g then .one k a n e g else let a' := a.read r (if k = 8 then b else b || a.en); .one k a' n a'.en (a'.en || a'.go)
 | .two k x y n e g, r, b => if !b && !g then .two k x y n e g else
   let x' := x.read r b
   let y' := y.read r (if k = 4 then b && x.nu || x.en else b)
   let e' := if k = 4 then y'.en || x'.en && y'.nu else x'.en || y'.en
   .two k x' y' n e' (e' || x'.go || y'.go)
def Ps.Ok : Ps → Prop
 | .leaf _ _ _ e g => g = e
 | .one _ a _ e g => a.Ok ∧ g = (e || a.go) ∧ (e = a.en)
 | .two k x y _ e g => x.Ok ∧ y.Ok ∧ g = (e || x.go || y.go) ∧ e = (if k = 4 then y.en || x.en && y.nu else x.en || y.en)
theorem Ps.Ok.en_go {p : Ps} (h : p.Ok) : p.go = false → p.en = false := by
 cases p <;> simp only [Ps.Ok] at h <;> simp only [Ps.go, Ps.en]
 · intro hg; rw [← h]; exact hg
 · intro hg; rw [h.2.1] at hg; simp at hg; exact hg.1
 · intro hg; rw [h.2.2.1] at hg; simp at hg; exact hg.1.1
theorem Ps.rd_nu (p : Ps) (r : Int) (b : Bool) : (p.rd r b).nu = p.nu := by cases p <;> rfl
theorem Ps.rd_ok (p : Ps) (r : Int) (b : Bool) : (p.rd r b).Ok := by
 induction p generalizing b with
 | leaf => simp [Ps.rd, Ps.Ok]
 | one k a n e g ih => simp only [Ps.rd, Ps.Ok]; exact ⟨ih _, trivial, trivial⟩
 | two k x y n e g ihx ihy => simp only [Ps.rd, Ps.Ok]; exact ⟨ihx _, ihy _, trivial, trivial⟩
theorem Ps.rd_still {p : Ps} (h : p.Ok) (hg : p.go = false) (r : Int) : p.rd r false = p := by
 induction p with
 | leaf k s n e g =>
   simp only [Ps.Ok] at h
   simp only [Ps.go] at hg
   subst h
   subst hg
   simp [Ps.rd]
 | one k a n e g ih =>
   simp only [Ps.Ok] at h
   simp only [Ps.go] at hg
   obtain ⟨h1, h2, h3⟩ := h
   rw [hg] at h2
   have h4 : e = false ∧ a.go = false := by simpa using h2.symm
   obtain ⟨rfl, h5⟩ := h4
   have h6 := ih h1 h5
   have h7 := h1.en_go h5
   simp only [Ps.rd, h7, Bool.or_false, ite_self, h6, h5, hg]
 | two k x y n e g ihx ihy =>
   simp only [Ps.Ok] at h
   simp only [Ps.go] at hg
   obtain ⟨h1, h2, h3, h4⟩ := h
   rw [hg] at h3
   have h5 : (e = false ∧ x.go = false) ∧ y.go = false := by simpa using h3.symm
   obtain ⟨⟨rfl, h6⟩, h7⟩ := h5
   have e1 := h1.en_go h6
   have e2 := h2.en_go h7
   simp only [Ps.rd, e1, Bool.false_and, Bool.or_false, ite_self, ihx h1 h6, ihy h2 h7, e2, h6, h7, hg]
theorem Ps.read_eq {p : Ps} (h : p.Ok) (r : Int) (b : Bool) : p.read r b = p.rd r b := by
 induction p generalizing b with
 | leaf k s n e g =>
   by_cases hc : (!b && !g) = true
   · have hb : b = false ∧ g = false := by simpa using hc
     rw [Ps.read, if_pos hc, hb.1, Ps.rd_still h hb.2]
   · rw [Ps.read, if_neg hc, Ps.rd]
 | one k a n e g ih =>
   by_cases hc : (!b && !g) = true
   · have hb : b = false ∧ g = false := by simpa using hc
     rw [Ps.read, if_pos hc, hb.1, Ps.rd_still h hb.2]
   · rw [Ps.read, if_neg hc, Ps.rd]
     simp only [Ps.Ok] at h
     simp only [ih h.1]
 | two k x y n e g ihx ihy =>
   by_cases hc : (!b && !g) = true
   · have hb : b = false ∧ g = false := by simpa using hc
     rw [Ps.read, if_pos hc, hb.1, Ps.rd_still h hb.2]
   · rw [Ps.read, if_neg hc, Ps.rd]
     simp only [Ps.Ok] at h
     simp only [ihx h.1, ihy h.2.1]
theorem Rx.ps_ok (x : Rx) : x.ps.Ok ∧ x.ps.go = false ∧ x.ps.en = false ∧ x.ps.nu = x.nul := by
 induction x with
 | leaf k s => simp [Rx.ps, Ps.Ok, Ps.go, Ps.en, Ps.nu, Rx.nul]
 | one k a ih => exact ⟨⟨ih.1, by rw [ih.2.1]; rfl, by rw [ih.2.2.1]⟩, rfl, rfl, rfl⟩
 | two k a b iha ihb => exact ⟨⟨iha.1, ihb.1, by rw [iha.2.1, ihb.2.1]; rfl, by rw [iha.2.2.1, ihb.2.2.1]; simp⟩, rfl, rfl, rfl⟩
section
variable (tx : List Int)
def seg (i j : Nat) : List Int := (tx.take j).drop i
theorem seg_self (i : Nat) : seg tx i i = [] := by simp [seg]
theorem seg_ge {i j : Nat} (h : j ≤ i) : seg tx i j = [] := by
 unfold seg; exact List.drop_eq_nil_of_le (by rw [List.length_take]; omega)
theorem seg_len {i j : Nat} (hj : j ≤ tx.length) : (seg tx i j).length = j - i := by
 unfold seg; rw [List.length_drop, List.length_take]; omega
theorem seg_app {i j k : Nat} (h1 : i ≤ j) (h2 : j ≤ k) : seg tx i k = seg tx i j ++ seg tx j k := by
 unfold seg
 rw [← List.take_append_drop (j - i) ((tx.take k).drop i), List.drop_drop, List.take_drop, List.take_take, show i + (j - i) = j by omega, Nat.min_eq_left h2]
theorem seg_one {n : Nat} (h : n < tx.length) : seg tx n (n + 1) = [tx[n]] := by
 unfold seg
 rw [List.take_succ_eq_append_getElem h, List.drop_append_of_le_length (by rw [List.length_take]; omega), List.drop_eq_nil_of_le (by rw [List.length_take]; omega)]
 rfl
theorem seg_ne {i j : Nat} (h : i < j) (hj : j ≤ tx.length) : seg tx i j ≠ [] := fun e => by
 have := seg_len tx (i := i) hj
 rw [e] at this
 simp at this
 omega
theorem seg_cut {i k : Nat} {x y : List Int} (hik : i ≤ k) (hk : k ≤ tx.length) (h : seg tx i k = x ++ y) : ∃ j, i ≤ j ∧ j ≤ k ∧ x = seg tx i j ∧ y = seg tx j k := by
 have hl := seg_len tx (i := i) hk
 rw [h, List.length_append] at hl
 refine ⟨i + x.length, by omega, by omega, ?_⟩
 rw [seg_app tx (show i ≤ i + x.length by omega) (show i + x.length ≤ k by omega)] at h
 have := List.append_inj h (by rw [seg_len tx (by omega)]; omega)
 exact ⟨this.1.symm, this.2.symm⟩
def En (x : Rx) (n : Nat) (S : Nat → Prop) : Prop := ∃ i, i < n ∧ S i ∧ x.L (seg tx i n)
def S2 (a : Rx) (S : Nat → Prop) (j : Nat) : Prop := (S j ∧ a.nul = true) ∨ En tx a j S
def S6 (a : Rx) (S : Nat → Prop) (j : Nat) : Prop := ∃ i, i ≤ j ∧ S i ∧ Star a.L (seg tx i j)
def Inv : Rx → Ps → Nat → (Nat → Prop) → Prop
 | .leaf k s, .leaf k' s' nu en _, n, S => k = k' ∧ s = s' ∧ nu = (Rx.leaf k s).nul ∧ (en = true ↔ En tx (.leaf k s) n S)
 | .one k a, .one k' p nu en _, n, S => k = k' ∧ nu = (Rx.one k a).nul ∧ (en = true ↔ En tx (.one k a) n S) ∧ Inv a p n (if k = 8 then S else S6 tx a S)
 | .two k a b, .two k' p q nu en _, n, S => k = k' ∧ nu = (Rx.two k a b).nul ∧ (en = true ↔ En tx (.two k a b) n S) ∧ Inv a p n S ∧ Inv b q n (if k = 4 then S2 tx a S else S)
 | _, _, _, _ => False
theorem Inv.en {x : Rx} {p : Ps} {n : Nat} {S : Nat → Prop} (h : Inv tx x p n S) : p.en = true ↔ En tx x n S := by
 cases x <;> cases p <;> simp only [Inv] at h <;> first | exact h.2.2.2 | exact h.2.2.1 | exact h.2.2.1
theorem Inv.nu {x : Rx} {p : Ps} {n : Nat} {S : Nat → Prop} (h : Inv tx x p n S) : p.nu = x.nul := by
 cases x <;> cases p <;> simp only [Inv] at h <;> first | exact h.2.2.1 | exact h.2.1 | exact h.2.1
theorem en_zero (x : Rx) (S : Nat → Prop) : ¬ En tx x 0 S := fun ⟨i, h, _⟩ => by omega
theorem Rx.inv0 (x : Rx) (S : Nat → Prop) : Inv tx x x.ps 0 S := by
 induction x generalizing S with
 | leaf k s => exact ⟨rfl, rfl, rfl, by simp [en_zero]⟩
 | one k a ih => exact ⟨rfl, rfl, by simp [en_zero], ih _⟩
 | two k a b iha ihb => exact ⟨rfl, rfl, by simp [en_zero], iha _, ihb _⟩
theorem en_star {a : Rx} {n : Nat} {S : Nat → Prop} (h : En tx a n (S6 tx a S)) : ∃ i, i < n ∧ S i ∧ Star a.L (seg tx i n) := by
 obtain ⟨j, hj, ⟨i, hi, hS, h1⟩, h2⟩ := h
 exact ⟨i, by omega, hS, by rw [seg_app tx hi (Nat.le_of_lt hj)]; exact h1.snoc h2⟩
theorem star_en {a : Rx} {i n : Nat} {S : Nat → Prop} (hn : n ≤ tx.length) (hi : i < n) (hS : S i) (h : Star a.L (seg tx i n)) : En tx a n (S6 tx a S) := by
 rcases h.last with h | ⟨x, y, e, h1, h2, h3⟩
 · exact absurd h (seg_ne tx hi hn)
 · obtain ⟨j, hj1, hj2, rfl, rfl⟩ := seg_cut tx (Nat.le_of_lt hi) hn e
   have : j < n := Nat.lt_of_not_le fun hh => h3 (seg_ge tx hh)
   exact ⟨j, this, ⟨i, hj1, hS, h1⟩, h2⟩
theorem plus_star {a : Rx} {u : List Int} (hu : u ≠ []) : (∃ x y, u = x ++ y ∧ a.L x ∧ Star a.L y) ↔ Star a.L u := by
 constructor
 · rintro ⟨x, y, rfl, h1, h2⟩; exact Star.app h1 h2
 · intro h
   rcases h.first with rfl | ⟨x, y, e, h1, h2, _⟩
   · exact absurd rfl hu
   · exact ⟨x, y, e, h1, h2⟩
theorem Inv.step {x : Rx} {p : Ps} {n : Nat} {S : Nat → Prop} (h : Inv tx x p n S) (hn : n < tx.length) (b : Bool) (hb : b = true ↔ S n) : Inv tx x (p.rd tx[n] b) (n + 1) S := by
 induction x generalizing p S b with
 | leaf k s =>
   cases p <;> simp only [Inv] at h
   obtain ⟨rfl, rfl, rfl, h4⟩ := h
   simp only [Ps.rd, Inv]
   refine ⟨trivial, trivial, trivial, ?_⟩
   rename_i en go
   unfold En Rx.L
   by_cases hk : k = 1
   · simp only [if_pos hk, Bool.and_eq_true, hb]
     constructor
     · rintro ⟨h1, h2⟩
       exact ⟨n, by omega, h1, tx[n], seg_one tx hn, h2⟩
     · rintro ⟨i, hi, h1, r, e, h2⟩
       have hl := seg_len tx (i := i) (show n + 1 ≤ tx.length from hn)
       rw [e] at hl
       simp at hl
       obtain rfl : i = n := by omega
       rw [seg_one tx hn] at e
       cases e
       exact ⟨h1, h2⟩
   · simp only [if_neg hk]
     rw [h4]
     unfold En Rx.L
     simp only [if_neg hk]
     constructor
     · rintro ⟨i, hi, _, e⟩; exact absurd e (seg_ne tx hi (by omega))
     · rintro ⟨i, hi, _, e⟩; exact absurd e (seg_ne tx hi hn)
 | one k a ih =>
   cases p <;> simp only [Inv] at h
   obtain ⟨rfl, rfl, h3, h4⟩ := h
   rename_i q en go
   simp only [Ps.rd, Inv]
   by_cases h8 : k = 8
   · simp only [if_pos h8] at h4 ⊢
     have h5 := ih h4 b hb
     refine ⟨trivial, trivial, ?_, h5⟩
     rw [h5.en]
     unfold En
     constructor
     · rintro ⟨i, hi, h1, h2⟩; exact ⟨i, hi, h1, by unfold Rx.L; rw [if_pos h8]; exact .inr h2⟩
     · rintro ⟨i, hi, h1, h2⟩
       unfold Rx.L at h2
       rw [if_pos h8] at h2
       rcases h2 with h2 | h2
       · exact absurd h2 (seg_ne tx hi hn)
       · exact ⟨i, hi, h1, h2⟩
   · simp only [if_neg h8] at h4 ⊢
     have hb' : (b || q.en) = true ↔ S6 tx a S n := by
       rw [Bool.or_eq_true, hb, h4.en]
       constructor
       · rintro (h | h)
         · exact ⟨n, Nat.le_refl _, h, by rw [seg_self]; exact .nil⟩
         · obtain ⟨i, h1, h2, h3⟩ := en_star tx h
           exact ⟨i, Nat.le_of_lt h1, h2, h3⟩
       · rintro ⟨i, h1, h2, h3⟩
         by_cases he : i = n
         · exact .inl (he ▸ h2)
         · exact .inr (star_en tx (Nat.le_of_lt hn) (by omega) h2 h3)
     have h5 := ih h4 _ hb'
     refine ⟨trivial, trivial, ?_, h5⟩
     rw [h5.en]
     have key : En tx a (n + 1) (S6 tx a S) ↔ ∃ i, i < n + 1 ∧ S i ∧ Star a.L (seg tx i (n + 1)) :=
       ⟨fun h => en_star tx h, fun ⟨i, h1, h2, h3⟩ => star_en tx hn h1 h2 h3⟩
     rw [key]
     unfold En
     by_cases h7 : k = 7
     · constructor
       · rintro ⟨i, hi, h1, h2⟩; exact ⟨i, hi, h1, by unfold Rx.L; rw [if_neg h8, if_pos h7]; exact (plus_star (seg_ne tx hi hn)).2 h2⟩
       · rintro ⟨i, hi, h1, h2⟩; unfold Rx.L at h2; rw [if_neg h8, if_pos h7] at h2; exact ⟨i, hi, h1, (plus_star (seg_ne tx hi hn)).1 h2⟩
     · constructor
       · rintro ⟨i, hi, h1, h2⟩; exact ⟨i, hi, h1, by unfold Rx.L; rw [if_neg h8, if_neg h7]; exact h2⟩
       · rintro ⟨i, hi, h1, h2⟩; unfold Rx.L at h2; rw [if_neg h8, if_neg h7] at h2; exact ⟨i, hi, h1, h2⟩
 | two k a b' iha ihb =>
   cases p <;> simp only [Inv] at h
   obtain ⟨rfl, rfl, h3, h4, h5⟩ := h
   rename_i q1 q2 en go
   simp only [Ps.rd, Inv]
   have g4 := iha h4 b hb
   by_cases hk : k = 4
   · simp only [if_pos hk] at h5 ⊢
     have hf : (b && q1.nu || q1.en) = true ↔ S2 tx a S n := by
       rw [Bool.or_eq_true, Bool.and_eq_true, hb, h4.en, h4.nu]; rfl
     have g5 := ihb h5 _ hf
     refine ⟨trivial, trivial, ?_, g4, g5⟩
     rw [Bool.or_eq_true, Bool.and_eq_true, g5.en, g4.en, g5.nu]
     constructor
     · rintro (⟨j, hj, h1 | ⟨i, hi, h1, h1'⟩, h2⟩ | ⟨⟨i, hi, h1, h1'⟩, h2⟩)
       · exact ⟨j, hj, h1.1, by unfold Rx.L; rw [if_pos hk]; exact ⟨[], _, rfl, (Rx.nul_iff a).1 h1.2, h2⟩⟩
       · exact ⟨i, by omega, h1, by unfold Rx.L; rw [if_pos hk]; exact ⟨_, _, seg_app tx (Nat.le_of_lt hi) (Nat.le_of_lt hj), h1', h2⟩⟩
       · exact ⟨i, hi, h1, by unfold Rx.L; rw [if_pos hk]; exact ⟨_, [], by simp, h1', (Rx.nul_iff b').1 h2⟩⟩
     · rintro ⟨i, hi, h1, h2⟩
       unfold Rx.L at h2
       rw [if_pos hk] at h2
       obtain ⟨x, y, e, hx, hy⟩ := h2
       obtain ⟨j, hj1, hj2, rfl, rfl⟩ := seg_cut tx (Nat.le_of_lt hi) hn e
       by_cases hj : j = n + 1
       · subst hj
         rw [seg_self] at hy
         exact .inr ⟨⟨i, hi, h1, hx⟩, (Rx.nul_iff b').2 hy⟩
       · refine .inl ⟨j, by omega, ?_, hy⟩
         by_cases hij : i = j
         · subst hij
           rw [seg_self] at hx
           exact .inl ⟨h1, (Rx.nul_iff a).2 hx⟩
         · exact .inr ⟨i, by omega, h1, hx⟩
   · simp only [if_neg hk] at h5 ⊢
     have g5 := ihb h5 b hb
     refine ⟨trivial, trivial, ?_, g4, g5⟩
     rw [Bool.or_eq_true, g5.en, g4.en]
     constructor
     · rintro (⟨i, hi, h1, h2⟩ | ⟨i, hi, h1, h2⟩)
       · exact ⟨i, hi, h1, by unfold Rx.L; rw [if_neg hk]; exact .inl h2⟩
       · exact ⟨i, hi, h1, by unfold Rx.L; rw [if_neg hk]; exact .inr h2⟩
     · rintro ⟨i, hi, h1, h2⟩
       unfold Rx.L at h2
       rw [if_neg hk] at h2
       rcases h2 with h2 | h2
       · exact .inl ⟨i, hi, h1, h2⟩
       · exact .inr ⟨i, hi, h1, h2⟩
def run (p : Ps) : Nat → Ps
 | 0 => p
 | n + 1 => (run p n).rd (tx.getD n 0) (decide (n = 0))
theorem run_inv (x : Rx) (n : Nat) (hn : n ≤ tx.length) : Inv tx x (run tx x.ps n) n (fun j => j = 0) := by
 induction n with
 | zero => exact Rx.inv0 tx x _
 | succ n ih =>
   have h := (ih (by omega)).step tx hn (decide (n = 0)) (by simp)
   rw [run, List.getD_eq_getElem?_getD, List.getElem?_eq_getElem hn]
   exact h
theorem run_en (x : Rx) (n : Nat) (hn : n ≤ tx.length) (h0 : 0 < n) : (run tx x.ps n).en = true ↔ x.L (tx.take n) := by
 rw [(run_inv tx x n hn).en]
 constructor
 · rintro ⟨i, _, rfl, h⟩; simpa [seg] using h
 · intro h; exact ⟨0, h0, rfl, by simpa [seg] using h⟩
theorem run_ok (x : Rx) (n : Nat) : (run tx x.ps n).Ok := by
 cases n with
 | zero => exact (Rx.ps_ok x).1
 | succ n => exact Ps.rd_ok _ _ _
theorem run_dead (x : Rx) (n m : Nat) (h0 : 0 < n) (hm : n ≤ m) (hg : (run tx x.ps n).go = false) : run tx x.ps m = run tx x.ps n := by
 induction m with
 | zero => omega
 | succ m ih =>
   by_cases he : n = m + 1
   · rw [he]
   · rw [run, ih (by omega), show decide (m = 0) = false by simp; omega]
     exact Ps.rd_still (run_ok tx x n) hg _
end
end E
theorem inS_eq (s : List (Int × Int)) (r : Int) : E.inS s r = U.S.hB s r := rfl
end Go.Proofs.YteaaijhppmkfeaaGreatDoor
