/- Plain facts on sets of code points: lists of ranges that rise, each apart from the next; one list alone for a set. -/
namespace Go.Proofs.Ytbkcbclloemajaa
namespace S
abbrev R := Int × Int

def good (r : R) : Bool := decide (0 ≤ r.1) && (decide (r.1 ≤ r.2) && decide (r.2 ≤ 1114111))
theorem good_iff (r : R) : good r = true ↔ 0 ≤ r.1 ∧ r.1 ≤ r.2 ∧ r.2 ≤ 1114111 := by simp [good]

/-- p lies in one of the ranges. -/
def has (l : List R) (p : Int) : Prop := ∃ r ∈ l, r.1 ≤ p ∧ p ≤ r.2
def goods (l : List R) : List R := l.filter good
/-- p lies in one of the ranges that are some. -/
def hs (l : List R) (p : Int) : Prop := has (goods l) p

theorem has_nil (p : Int) : ¬ has [] p := by rintro ⟨r, h, _⟩; simp at h
theorem has_cons (r : R) (l : List R) (p : Int) : has (r :: l) p ↔ (r.1 ≤ p ∧ p ≤ r.2) ∨ has l p := by
  constructor
  · rintro ⟨x, hx, h⟩
    rcases List.mem_cons.1 hx with rfl | hx
    · exact .inl h
    · exact .inr ⟨x, hx, h⟩
  · rintro (h | ⟨x, hx, h⟩)
    · exact ⟨r, by simp, h⟩
    · exact ⟨x, by simp [hx], h⟩
theorem has_append (a b : List R) (p : Int) : has (a ++ b) p ↔ has a p ∨ has b p := by
  induction a with
  | nil => simp [has_nil]
  | cons r a ih => rw [List.cons_append, has_cons, has_cons, ih, or_assoc]
theorem has_perm {a b : List R} (h : a.Perm b) (p : Int) : has a p ↔ has b p := by
  unfold has
  constructor
  · rintro ⟨r, hr, h'⟩; exact ⟨r, h.mem_iff.1 hr, h'⟩
  · rintro ⟨r, hr, h'⟩; exact ⟨r, h.mem_iff.2 hr, h'⟩
theorem goods_append (a b : List R) : goods (a ++ b) = goods a ++ goods b := by simp [goods]
theorem hs_append (a b : List R) (p : Int) : hs (a ++ b) p ↔ hs a p ∨ hs b p := by
  unfold hs; rw [goods_append, has_append]
theorem goods_good {l : List R} {r : R} (h : r ∈ goods l) : good r = true := (List.mem_filter.1 h).2

/-- The ranges are a set. -/
structure Canon (l : List R) : Prop where
  good : ∀ r ∈ l, good r = true
  apart : l.Pairwise fun a b => a.2 + 1 < b.1

theorem canon_nil : Canon [] := ⟨fun r h => by simp at h, List.Pairwise.nil⟩
theorem canon_one {r : R} (h : S.good r = true) : Canon [r] := ⟨fun x hx => by simp at hx; rw [hx]; exact h, List.pairwise_singleton _ _⟩
theorem Canon.tail {r : R} {l : List R} (h : Canon (r :: l)) : Canon l := ⟨fun x hx => h.good x (by simp [hx]), (List.pairwise_cons.1 h.apart).2⟩
theorem Canon.head {r : R} {l : List R} (h : Canon (r :: l)) : 0 ≤ r.1 ∧ r.1 ≤ r.2 ∧ r.2 ≤ 1114111 := (good_iff r).1 (h.good r (by simp))
theorem Canon.behind {r : R} {l : List R} (h : Canon (r :: l)) {p : Int} (hp : has l p) : r.2 + 1 < p := by
  obtain ⟨x, hx, h1, h2⟩ := hp
  have := (List.pairwise_cons.1 h.apart).1 x hx
  omega
theorem Canon.cons {r : R} {l : List R} (hg : S.good r = true) (h : Canon l) (hb : ∀ x ∈ l, r.2 + 1 < x.1) : Canon (r :: l) :=
  ⟨fun x hx => by rcases List.mem_cons.1 hx with rfl | hx; exact hg; exact h.good x hx, List.pairwise_cons.2 ⟨hb, h.apart⟩⟩
theorem Canon.bounds {l : List R} (h : Canon l) {p : Int} (hp : has l p) : 0 ≤ p ∧ p ≤ 1114111 := by
  obtain ⟨x, hx, h1, h2⟩ := hp
  have := (good_iff x).1 (h.good x hx)
  omega
theorem Canon.goods {l : List R} (h : Canon l) : S.goods l = l := List.filter_eq_self.2 h.good
theorem Canon.hs {l : List R} (h : Canon l) (p : Int) : S.hs l p ↔ has l p := by unfold S.hs; rw [h.goods]

/-- One list alone for a set. -/
theorem canon_eq : ∀ {a b : List R}, Canon a → Canon b → (∀ p, has a p ↔ has b p) → a = b := by
  intro a
  induction a with
  | nil =>
    intro b _ hb h
    cases b with
    | nil => rfl
    | cons y b =>
      have := hb.head
      exact absurd ((h y.1).2 ((has_cons y b y.1).2 (.inl ⟨by omega, by omega⟩))) (has_nil _)
  | cons x a ih =>
    intro b ha hb h
    cases b with
    | nil =>
      have := ha.head
      exact absurd ((h x.1).1 ((has_cons x a x.1).2 (.inl ⟨by omega, by omega⟩))) (has_nil _)
    | cons y b =>
      have hx := ha.head
      have hy := hb.head
      have e1 : y.1 ≤ x.1 := by
        rcases (has_cons y b x.1).1 ((h x.1).1 ((has_cons x a x.1).2 (.inl ⟨by omega, by omega⟩))) with h' | h'
        · exact h'.1
        · have := hb.behind h'; omega
      have e2 : x.1 ≤ y.1 := by
        rcases (has_cons x a y.1).1 ((h y.1).2 ((has_cons y b y.1).2 (.inl ⟨by omega, by omega⟩))) with h' | h'
        · exact h'.1
        · have := ha.behind h'; omega
      have e3 : x.2 ≤ y.2 := by
        apply Int.not_lt.1
        intro hlt
        rcases (has_cons y b (y.2 + 1)).1 ((h (y.2 + 1)).1 ((has_cons x a (y.2 + 1)).2 (.inl ⟨by omega, by omega⟩))) with h' | h'
        · omega
        · have := hb.behind h'; omega
      have e4 : y.2 ≤ x.2 := by
        apply Int.not_lt.1
        intro hlt
        rcases (has_cons x a (x.2 + 1)).1 ((h (x.2 + 1)).2 ((has_cons y b (x.2 + 1)).2 (.inl ⟨by omega, by omega⟩))) with h' | h'
        · omega
        · have := ha.behind h'; omega
      have exy : x = y := Prod.ext (by omega) (by omega)
      subst exy
      rw [ih ha.tail hb.tail]
      intro p
      constructor
      · intro hp
        have h1 := ha.behind hp
        rcases (has_cons x b p).1 ((h p).1 ((has_cons x a p).2 (.inr hp))) with h' | h'
        · omega
        · exact h'
      · intro hp
        have h1 := hb.behind hp
        rcases (has_cons x a p).1 ((h p).2 ((has_cons x b p).2 (.inr hp))) with h' | h'
        · omega
        · exact h'

/-- One round of joining: the ranges so far, the last of them joined with s where it isn't apart. -/
def glue (out : List R) (s : R) : List R :=
  match out.getLast? with
  | none => [s]
  | some z => if z.2 + 1 < s.1 then out ++ [s] else out.dropLast ++ [(z.1, max z.2 s.2)]

theorem canon_append {a b : List R} : Canon (a ++ b) ↔ Canon a ∧ Canon b ∧ ∀ x ∈ a, ∀ y ∈ b, x.2 + 1 < y.1 := by
  constructor
  · intro h
    have h2 := List.pairwise_append.1 h.apart
    exact ⟨⟨fun r hr => h.good r (by simp [hr]), h2.1⟩, ⟨fun r hr => h.good r (by simp [hr]), h2.2.1⟩, h2.2.2⟩
  · rintro ⟨h1, h2, h3⟩
    refine ⟨fun r hr => ?_, List.pairwise_append.2 ⟨h1.apart, h2.apart, h3⟩⟩
    rcases List.mem_append.1 hr with hr | hr
    · exact h1.good r hr
    · exact h2.good r hr

/-- What the ranges so far are, of the ranges gone through. -/
structure Glued (done out : List R) : Prop where
  canon : Canon out
  mem : ∀ p, has out p ↔ has done p
  low : ∀ r ∈ out, ∃ d ∈ done, r.1 = d.1

theorem glued_nil : Glued [] [] := ⟨canon_nil, fun _ => Iff.rfl, fun r h => by simp at h⟩
theorem Glued.step {done out : List R} {s : R} (h : Glued done out) (hg : S.good s = true) (hlo : ∀ d ∈ done, d.1 ≤ s.1) : Glued (done ++ [s]) (glue out s) := by
  have hs' := (good_iff s).1 hg
  have hlow : ∀ r ∈ out, r.1 ≤ s.1 := fun r hr => by
    obtain ⟨d, hd, e⟩ := h.low r hr
    have := hlo d hd
    omega
  unfold glue
  rcases out.eq_nil_or_concat with rfl | ⟨o, z, rfl⟩
  · have hd : ∀ p, ¬ has done p := fun p hp => has_nil p ((h.mem p).2 hp)
    refine ⟨canon_one hg, fun p => ?_, fun r hr => ⟨s, by simp, by simp at hr; rw [hr]⟩⟩
    simp only [List.getLast?_nil]
    rw [has_append]
    constructor
    · exact .inr
    · rintro (hp | hp)
      · exact absurd hp (hd p)
      · exact hp
  · rw [List.concat_eq_append] at *
    have hc := canon_append.1 h.canon
    have hz := (good_iff z).1 (h.canon.good z (by simp))
    have hzl := hlow z (by simp)
    have hone : ∀ (x : R) (p : Int), has [x] p ↔ x.1 ≤ p ∧ p ≤ x.2 := fun x p => by rw [has_cons]; simp [has_nil]
    simp only [List.getLast?_append, List.getLast?_singleton, Option.some_or, List.dropLast_concat]
    split
    · rename_i ha
      refine ⟨canon_append.2 ⟨h.canon, canon_one hg, fun x hx y hy => ?_⟩, fun p => ?_, fun r hr => ?_⟩
      · simp at hy; subst hy
        rcases List.mem_append.1 hx with hx | hx
        · have := hc.2.2 x hx z (by simp); omega
        · simp at hx; subst hx; exact ha
      · rw [has_append (o ++ [z]), has_append done, h.mem]
      · rcases List.mem_append.1 hr with hr | hr
        · obtain ⟨d, hd, e⟩ := h.low r hr
          exact ⟨d, by simp [hd], e⟩
        · simp at hr; subst hr
          exact ⟨r, by simp, rfl⟩
    · rename_i ha
      refine ⟨canon_append.2 ⟨hc.1, canon_one ((good_iff _).2 ⟨by simpa using hz.1, by simp; omega, by simp; omega⟩), fun x hx y hy => ?_⟩, fun p => ?_, fun r hr => ?_⟩
      · simp at hy; subst hy
        exact hc.2.2 x hx z (by simp)
      · rw [has_append, has_append, ← h.mem, has_append, hone, hone, hone]
        constructor
        · rintro (hp | hp)
          · exact .inl (.inl hp)
          · simp only at hp
            by_cases h1 : p ≤ z.2
            · exact .inl (.inr ⟨hp.1, h1⟩)
            · exact .inr ⟨by omega, by omega⟩
        · rintro ((hp | hp) | hp)
          · exact .inl hp
          · exact .inr ⟨hp.1, by simp only; omega⟩
          · exact .inr ⟨by simp only; omega, by simp only; omega⟩
      · rcases List.mem_append.1 hr with hr | hr
        · obtain ⟨d, hd, e⟩ := h.low r (by simp [hr])
          exact ⟨d, by simp [hd], e⟩
        · simp at hr; subst hr
          obtain ⟨d, hd, e⟩ := h.low z (by simp)
          exact ⟨d, by simp [hd], e⟩

/-- What the code space has and the set hasn't, from a number on. -/
def gaps (f : Int) : List R → List R
  | [] => [(f, 1114111)]
  | s :: l => (if f < s.1 then [(f, s.1 - 1)] else []) ++ (if s.2 = 1114111 then [] else gaps (s.2 + 1) l)

theorem gaps_fits : ∀ (l : List R) (f : Int), 0 ≤ f → f ≤ 1114111 → Canon l → (∀ r ∈ l, f ≤ r.1) →
    Canon (gaps f l) ∧ (∀ r ∈ gaps f l, f ≤ r.1) ∧ ∀ p, has (gaps f l) p ↔ f ≤ p ∧ p ≤ 1114111 ∧ ¬ has l p := by
  intro l
  induction l with
  | nil =>
    intro f h0 h1 _ _
    refine ⟨canon_one ((good_iff _).2 ⟨h0, h1, Int.le_refl _⟩), fun r hr => by simp [gaps] at hr; subst hr; exact Int.le_refl _, fun p => ?_⟩
    simp only [gaps, has_cons, has_nil, or_false, not_false_eq_true, and_true]
  | cons s l ih =>
    intro f h0 h1 hc hf
    have hs := hc.head
    have hfs := hf s (by simp)
    have hrest : Canon (if s.2 = 1114111 then [] else gaps (s.2 + 1) l) ∧ (∀ r ∈ (if s.2 = 1114111 then [] else gaps (s.2 + 1) l), s.2 + 1 ≤ r.1) ∧ ∀ p, has (if s.2 = 1114111 then [] else gaps (s.2 + 1) l) p ↔ s.2 + 1 ≤ p ∧ p ≤ 1114111 ∧ ¬ has l p := by
      split
      · rename_i he
        refine ⟨canon_nil, fun r hr => by simp at hr, fun p => ⟨fun h => absurd h (has_nil p), fun h => by omega⟩⟩
      · rename_i he
        exact ih (s.2 + 1) (by omega) (by omega) hc.tail (fun r hr => by have := (List.pairwise_cons.1 hc.apart).1 r hr; omega)
    obtain ⟨r1, r2, r3⟩ := hrest
    unfold gaps
    by_cases hlt : f < s.1
    · rw [if_pos hlt]
      refine ⟨Canon.cons ((good_iff _).2 ⟨by simpa using h0, by simp; omega, by simp; omega⟩) r1 (fun x hx => by have := r2 x hx; simp; omega), fun r hr => ?_, fun p => ?_⟩
      · rcases List.mem_cons.1 hr with rfl | hr
        · exact Int.le_refl _
        · have := r2 r hr; omega
      · rw [List.singleton_append, has_cons, has_cons, r3]
        simp only
        constructor
        · rintro (⟨h2, h3⟩ | ⟨h2, h3, h4⟩)
          · refine ⟨h2, by omega, ?_⟩
            rintro (h | h)
            · omega
            · have := hc.behind h; omega
          · refine ⟨by omega, h3, ?_⟩
            rintro (h | h)
            · omega
            · exact h4 h
        · rintro ⟨h2, h3, h4⟩
          by_cases h5 : p ≤ s.1 - 1
          · exact .inl ⟨h2, h5⟩
          · refine .inr ⟨?_, h3, fun h => h4 (.inr h)⟩
            apply Int.not_lt.1
            intro h6
            exact h4 (.inl ⟨by omega, by omega⟩)
    · rw [if_neg hlt, List.nil_append]
      refine ⟨r1, fun r hr => by have := r2 r hr; omega, fun p => ?_⟩
      rw [r3, has_cons]
      constructor
      · rintro ⟨h2, h3, h4⟩
        refine ⟨by omega, h3, ?_⟩
        rintro (h | h)
        · omega
        · exact h4 h
      · rintro ⟨h2, h3, h4⟩
        refine ⟨?_, h3, fun h => h4 (.inr h)⟩
        apply Int.not_lt.1
        intro h6
        exact h4 (.inl ⟨by omega, by omega⟩)

/-- What both have. -/
def common : List R → List R → List R
  | [], _ => []
  | _ :: _, [] => []
  | x :: a, y :: b => (if max x.1 y.1 ≤ min x.2 y.2 then [(max x.1 y.1, min x.2 y.2)] else []) ++ (if x.2 < y.2 then common a (y :: b) else common (x :: a) b)
termination_by a b => a.length + b.length

theorem common_nil (a : List R) : common a [] = [] := by cases a <;> simp [common]

theorem common_fits : ∀ (n : Nat) (a b : List R), a.length + b.length ≤ n → Canon a → Canon b →
    Canon (common a b) ∧ ∀ p, has (common a b) p ↔ has a p ∧ has b p := by
  intro n
  induction n with
  | zero =>
    intro a b hn _ _
    obtain rfl : a = [] := List.eq_nil_of_length_eq_zero (by omega)
    refine ⟨by simp [common]; exact canon_nil, fun p => ?_⟩
    simp [common, has_nil]
  | succ n ih =>
    intro a b hn ha hb
    cases a with
    | nil => refine ⟨by simp [common]; exact canon_nil, fun p => by simp [common, has_nil]⟩
    | cons x a =>
      cases b with
      | nil => refine ⟨by simp [common]; exact canon_nil, fun p => by simp [common, has_nil]⟩
      | cons y b =>
        have hx := ha.head
        have hy := hb.head
        have hrest : Canon (if x.2 < y.2 then common a (y :: b) else common (x :: a) b) ∧ (∀ p, has (if x.2 < y.2 then common a (y :: b) else common (x :: a) b) p ↔ (has (x :: a) p ∧ has (y :: b) p) ∧ min x.2 y.2 + 1 < p) := by
          split
          · rename_i hlt
            simp only [List.length_cons] at hn
            obtain ⟨h1, h2⟩ := ih a (y :: b) (by simp only [List.length_cons]; omega) ha.tail hb
            refine ⟨h1, fun p => ?_⟩
            rw [h2, has_cons x]
            constructor
            · rintro ⟨h3, h4⟩
              have := ha.behind h3
              exact ⟨⟨.inr h3, h4⟩, by omega⟩
            · rintro ⟨⟨h3 | h3, h4⟩, h5⟩
              · omega
              · exact ⟨h3, h4⟩
          · rename_i hlt
            simp only [List.length_cons] at hn
            obtain ⟨h1, h2⟩ := ih (x :: a) b (by simp only [List.length_cons]; omega) ha hb.tail
            refine ⟨h1, fun p => ?_⟩
            rw [h2, has_cons y]
            constructor
            · rintro ⟨h3, h4⟩
              have := hb.behind h4
              exact ⟨⟨h3, .inr h4⟩, by omega⟩
            · rintro ⟨⟨h3, h4 | h4⟩, h5⟩
              · omega
              · exact ⟨h3, h4⟩
        obtain ⟨r1, r2⟩ := hrest
        rw [common]
        have hlow : ∀ z ∈ (if x.2 < y.2 then common a (y :: b) else common (x :: a) b), min x.2 y.2 + 1 < z.1 := fun z hz => by
          have hg := (good_iff z).1 (r1.good z hz)
          exact ((r2 z.1).1 ⟨z, hz, by omega, by omega⟩).2
        generalize (if x.2 < y.2 then common a (y :: b) else common (x :: a) b) = rest at *
        have hmeet : ∀ p, (has (x :: a) p ∧ has (y :: b) p) ↔ (max x.1 y.1 ≤ p ∧ p ≤ min x.2 y.2) ∨ ((has (x :: a) p ∧ has (y :: b) p) ∧ min x.2 y.2 + 1 < p) := fun p => by
          constructor
          · intro h
            by_cases h1 : min x.2 y.2 + 1 < p
            · exact .inr ⟨h, h1⟩
            · refine .inl ?_
              obtain ⟨h2, h3⟩ := h
              rcases (has_cons x a p).1 h2 with h2 | h2
              · rcases (has_cons y b p).1 h3 with h3 | h3
                · omega
                · have := hb.behind h3; omega
              · have := ha.behind h2
                rcases (has_cons y b p).1 h3 with h3 | h3
                · omega
                · have := hb.behind h3; omega
          · rintro (h | h)
            · exact ⟨(has_cons x a p).2 (.inl ⟨by omega, by omega⟩), (has_cons y b p).2 (.inl ⟨by omega, by omega⟩)⟩
            · exact h.1
        split
        · rename_i hm
          refine ⟨Canon.cons ((good_iff _).2 ⟨by simp; omega, by simpa using hm, by simp; omega⟩) r1 hlow, fun p => ?_⟩
          rw [List.singleton_append, has_cons, r2]
          exact (hmeet p).symm
        · rename_i hm
          refine ⟨r1, fun p => ?_⟩
          rw [List.nil_append, r2]
          constructor
          · exact fun h => h.1
          · intro h
            rcases (hmeet p).1 h with h' | h'
            · omega
            · exact h'

/-- How many code points. -/
def count : List R → Int
  | [] => 0
  | r :: l => (r.2 - r.1 + 1) + count l

def hasB (l : List R) (p : Int) : Bool := l.any fun r => decide (r.1 ≤ p) && decide (p ≤ r.2)
theorem hasB_iff (l : List R) (p : Int) : hasB l p = true ↔ has l p := by simp [hasB, has]

theorem countP_range_between (n : Nat) (a b : Int) (h0 : 0 ≤ a) (h1 : a ≤ b + 1) (h2 : b < n) : ((List.range n).countP fun k : Nat => decide (a ≤ (k : Int)) && decide ((k : Int) ≤ b) : Nat) = (b - a + 1).toNat := by
  induction n generalizing b with
  | zero => have : b = -1 := by omega
            subst this
            have : a = 0 := by omega
            subst this
            rfl
  | succ n ih =>
    rw [List.range_succ, List.countP_append]
    by_cases hb : b < n
    · rw [ih b h1 hb]
      simp; omega
    · obtain rfl : b = n := by omega
      by_cases ha : a ≤ n
      · have h3 : ((List.range n).countP fun k : Nat => decide (a ≤ (k : Int)) && decide ((k : Int) ≤ (n : Int)) : Nat) = ((List.range n).countP fun k : Nat => decide (a ≤ (k : Int)) && decide ((k : Int) ≤ (n : Int) - 1) : Nat) := by
          apply List.countP_congr
          intro k hk
          have := List.mem_range.1 hk
          simp only [Bool.and_eq_true, decide_eq_true_eq]
          omega
        rw [h3, ih (n - 1) (by omega) (by omega)]
        simp [ha]; omega
      · have h3 : ((List.range n).countP fun k : Nat => decide (a ≤ (k : Int)) && decide ((k : Int) ≤ (n : Int)) : Nat) = 0 := by
          rw [List.countP_eq_zero]
          intro k hk
          have := List.mem_range.1 hk
          simp only [Bool.and_eq_true, decide_eq_true_eq]
          omega
        rw [h3]
        simp [ha]; omega

theorem countP_or_and {α : Type} (l : List α) (p q : α → Bool) : l.countP (fun x => p x || q x) + l.countP (fun x => p x && q x) = l.countP p + l.countP q := by
  induction l with
  | nil => rfl
  | cons x l ih =>
    simp only [List.countP_cons]
    cases p x <;> cases q x <;> simp <;> omega

/-- Counted code point by code point. -/
theorem count_eq (n : Nat) : ∀ {l : List R}, Canon l → (∀ r ∈ l, r.2 < n) → count l = ((List.range n).countP fun k : Nat => hasB l (k : Int) : Nat) := by
  intro l
  induction l with
  | nil => intro _ _; simp [count, hasB]
  | cons r l ih =>
    intro hc hn
    have hr := hc.head
    rw [count, ih hc.tail (fun x hx => hn x (by simp [hx]))]
    have h1 := countP_or_and (List.range n) (fun k : Nat => decide (r.1 ≤ (k : Int)) && decide ((k : Int) ≤ r.2)) (fun k : Nat => hasB l (k : Int))
    have h2 : (List.range n).countP (fun k : Nat => (decide (r.1 ≤ (k : Int)) && decide ((k : Int) ≤ r.2)) && hasB l (k : Int)) = 0 := by
      rw [List.countP_eq_zero]
      intro k _ h
      simp only [Bool.and_eq_true, decide_eq_true_eq, hasB_iff] at h
      have := hc.behind h.2
      omega
    rw [countP_range_between n r.1 r.2 hr.1 (by omega) (hn r (by simp)), h2] at h1
    have h3 : (List.range n).countP (fun k : Nat => hasB (r :: l) (k : Int)) = (List.range n).countP (fun k : Nat => (decide (r.1 ≤ (k : Int)) && decide ((k : Int) ≤ r.2)) || hasB l (k : Int)) := by
      simp only [hasB, List.any_cons]
    rw [h3]
    omega

/-- Counts add up. -/
theorem count_add {x y u n : List R} (hx : Canon x) (hy : Canon y) (hu : Canon u) (hn : Canon n) (h1 : ∀ p, has u p ↔ has x p ∨ has y p) (h2 : ∀ p, has n p ↔ has x p ∧ has y p) : count u + count n = count x + count y := by
  obtain ⟨N, hN⟩ : ∃ N : Nat, N = 1114112 := ⟨_, rfl⟩
  have hb : ∀ {l : List R}, Canon l → ∀ r ∈ l, r.2 < N := fun hl r hr => by have := (good_iff r).1 (hl.good r hr); omega
  rw [count_eq N hx (hb hx), count_eq N hy (hb hy), count_eq N hu (hb hu), count_eq N hn (hb hn)]
  have h := countP_or_and (List.range N) (fun k : Nat => hasB x (k : Int)) (fun k : Nat => hasB y (k : Int))
  have e1 : (fun k : Nat => hasB u (k : Int)) = (fun k : Nat => hasB x (k : Int) || hasB y (k : Int)) := by
    funext k
    rw [Bool.eq_iff_iff, Bool.or_eq_true, hasB_iff, hasB_iff, hasB_iff, h1]
  have e2 : (fun k : Nat => hasB n (k : Int)) = (fun k : Nat => hasB x (k : Int) && hasB y (k : Int)) := by
    funext k
    rw [Bool.eq_iff_iff, Bool.and_eq_true, hasB_iff, hasB_iff, hasB_iff, h2]
  rw [e1, e2]
  omega

theorem glue_length (out : List R) (s : R) : (glue out s).length ≤ out.length + 1 := by
  unfold glue
  rcases out.eq_nil_or_concat with rfl | ⟨o, z, rfl⟩
  · simp
  · rw [List.concat_eq_append]
    simp only [List.getLast?_append, List.getLast?_singleton, Option.some_or, List.dropLast_concat]
    split <;> simp

/-- There is a set of each list. -/
theorem exists_canon_of' (l : List R) : ∃ z, Canon z ∧ (∀ p, has z p ↔ hs l p) ∧ z.length ≤ l.length := by
  obtain ⟨m, hm⟩ : ∃ m, m = (goods l).mergeSort (fun a b => decide (a.1 ≤ b.1)) := ⟨_, rfl⟩
  have hp : m.Perm (goods l) := hm ▸ List.mergeSort_perm _ _
  have hsort : m.Pairwise (fun a b => a.1 ≤ b.1) := by
    have := List.pairwise_mergeSort (le := fun a b : R => decide (a.1 ≤ b.1)) (fun a b c h1 h2 => by simp at *; omega) (fun a b => by simp; omega) (goods l)
    rw [← hm] at this
    exact this.imp (by simp)
  have key : ∀ (rest done out : List R), Glued done out → (∀ r ∈ rest, S.good r = true) → rest.Pairwise (fun a b => a.1 ≤ b.1) → (∀ d ∈ done, ∀ r ∈ rest, d.1 ≤ r.1) → ∃ z, Glued (done ++ rest) z ∧ z.length ≤ out.length + rest.length := by
    intro rest
    induction rest with
    | nil => intro done out h _ _ _; exact ⟨out, by rw [List.append_nil]; exact h, by simp⟩
    | cons s rest ih =>
      intro done out h hg hs hd
      obtain ⟨z, h1, h2⟩ := ih (done ++ [s]) (glue out s) (h.step (hg s (by simp)) (fun d hd' => hd d hd' s (by simp))) (fun r hr => hg r (by simp [hr])) (List.pairwise_cons.1 hs).2 (fun d hd' r hr => by
        rcases List.mem_append.1 hd' with hd' | hd'
        · exact hd d hd' r (by simp [hr])
        · simp at hd'; subst hd'; exact (List.pairwise_cons.1 hs).1 r hr)
      rw [List.append_assoc] at h1
      have := glue_length out s
      exact ⟨z, h1, by simp only [List.length_cons]; omega⟩
  obtain ⟨z, hz, hzl⟩ := key m [] [] glued_nil (fun r hr => goods_good (hp.mem_iff.1 hr)) hsort (fun d hd => by simp at hd)
  have h3 : m.length ≤ l.length := by rw [hp.length_eq]; exact List.length_filter_le _ _
  exact ⟨z, hz.canon, fun p => by rw [hz.mem, List.nil_append, has_perm hp]; rfl, by simp only [List.length_nil] at hzl; omega⟩
theorem exists_canon_of (l : List R) : ∃ z, Canon z ∧ ∀ p, has z p ↔ hs l p :=
  let ⟨z, h1, h2, _⟩ := exists_canon_of' l
  ⟨z, h1, h2⟩

/-- The set of a list. -/
noncomputable def set (l : List R) : List R := Classical.choose (exists_canon_of l)
theorem set_canon (l : List R) : Canon (set l) := (Classical.choose_spec (exists_canon_of l)).1
theorem set_has (l : List R) (p : Int) : has (set l) p ↔ hs l p := (Classical.choose_spec (exists_canon_of l)).2 p
theorem set_eq {l z : List R} (h : Canon z) (hh : ∀ p, has z p ↔ hs l p) : z = set l := canon_eq h (set_canon l) fun p => by rw [hh, set_has]
theorem set_self {l : List R} (h : Canon l) : set l = l := (set_eq h fun p => (h.hs p).symm).symm

theorem set_length (l : List R) : (set l).length ≤ l.length := by
  obtain ⟨z, h1, h2, h3⟩ := exists_canon_of' l
  rw [← set_eq h1 h2]
  exact h3
theorem gaps_length : ∀ (l : List R) (f : Int), (gaps f l).length ≤ l.length + 1
  | [], _ => by simp [gaps]
  | s :: l, f => by
    have := gaps_length l (s.2 + 1)
    unfold gaps
    split <;> split <;> simp <;> omega
theorem common_length : ∀ (n : Nat) (a b : List R), a.length + b.length ≤ n → (common a b).length ≤ n := by
  intro n
  induction n with
  | zero =>
    intro a b hn
    obtain rfl : a = [] := List.eq_nil_of_length_eq_zero (by omega)
    simp [common]
  | succ n ih =>
    intro a b hn
    cases a with
    | nil => simp [common]
    | cons x a =>
      cases b with
      | nil => simp [common]
      | cons y b =>
        have h1 := ih a (y :: b) (by simp at hn ⊢; omega)
        have h2 := ih (x :: a) b (by simp at hn ⊢; omega)
        rw [common]
        split <;> split <;> simp <;> omega

/-- The set of what is in no set. -/
noncomputable def not (l : List R) : List R := gaps 0 (set l)
theorem not_canon (l : List R) : Canon (not l) := (gaps_fits (set l) 0 (by omega) (by omega) (set_canon l) (fun r hr => ((good_iff r).1 ((set_canon l).good r hr)).1)).1
theorem not_has (l : List R) (p : Int) : has (not l) p ↔ 0 ≤ p ∧ p ≤ 1114111 ∧ ¬ hs l p := by
  have := (gaps_fits (set l) 0 (by omega) (by omega) (set_canon l) (fun r hr => ((good_iff r).1 ((set_canon l).good r hr)).1)).2.2 p
  rw [set_has] at this
  exact this
noncomputable def inter (a b : List R) : List R := common (set a) (set b)
theorem inter_canon (a b : List R) : Canon (inter a b) := (common_fits _ _ _ (Nat.le_refl _) (set_canon a) (set_canon b)).1
theorem inter_has (a b : List R) (p : Int) : has (inter a b) p ↔ hs a p ∧ hs b p := by
  have := (common_fits _ _ _ (Nat.le_refl _) (set_canon a) (set_canon b)).2 p
  rw [set_has, set_has] at this
  exact this
noncomputable def minus (a b : List R) : List R := common (set a) (not b)
theorem minus_canon (a b : List R) : Canon (minus a b) := (common_fits _ _ _ (Nat.le_refl _) (set_canon a) (not_canon b)).1
theorem hs_bounds {l : List R} {p : Int} (h : hs l p) : 0 ≤ p ∧ p ≤ 1114111 := by rw [← set_has] at h; exact (set_canon l).bounds h
theorem minus_has (a b : List R) (p : Int) : has (minus a b) p ↔ hs a p ∧ ¬ hs b p := by
  have := (common_fits _ _ _ (Nat.le_refl _) (set_canon a) (not_canon b)).2 p
  rw [set_has, not_has] at this
  rw [show minus a b = common (set a) (not b) from rfl, this]
  constructor
  · rintro ⟨h1, _, _, h2⟩; exact ⟨h1, h2⟩
  · rintro ⟨h1, h2⟩; exact ⟨h1, (hs_bounds h1).1, (hs_bounds h1).2, h2⟩
end S
end Go.Proofs.Ytbkcbclloemajaa
