/- The classes' least code points rise; their counts add up to all. -/
import Derived.Test.YtbkcbclloemajaaCanm
namespace Go.Proofs.Ytbkcbclloemajaa

/-- The first i classes, together. -/
def UpTo (L : List L3) (i : Nat) (z : List S.R) : Prop := ∀ p, S.has z p ↔ ∃ j, ∃ hj : j < (msL L).length, j < i ∧ 0 ≤ p ∧ p ≤ 1114111 ∧ mkL L p = (msL L)[j]
theorem upto_zero (L : List L3) : UpTo L 0 [] := fun p => by
  constructor
  · intro h; exact absurd h (S.has_nil p)
  · rintro ⟨j, _, hj, _⟩; omega
theorem setL_has {L : List L3} (h : L.length ≤ 64) {i : Nat} (hi : i < (msL L).length) (p : Int) : S.has (setL L (i : Int)) p ↔ 0 ≤ p ∧ p ≤ 1114111 ∧ mkL L p = (msL L)[i] := by
  rw [← (setL_canon h _).hs]; exact setL_hs h hi p
theorem upto_more {L : List L3} (h : L.length ≤ 64) {i : Nat} (hi : i < (msL L).length) {z : List S.R} (hc : S.Canon z) (hz : UpTo L i z) : UpTo L (i + 1) (S.set (z ++ setL L (i : Int))) ∧ S.count (S.set (z ++ setL L (i : Int))) = S.count z + S.count (setL L (i : Int)) := by
  have hx := setL_canon h (i : Int)
  have hu : ∀ p, S.has (S.set (z ++ setL L (i : Int))) p ↔ S.has z p ∨ S.has (setL L (i : Int)) p := fun p => by
    rw [S.set_has, S.hs_append, hc.hs, hx.hs]
  constructor
  · intro p
    rw [hu, hz p, setL_has h hi]
    constructor
    · rintro (⟨j, hj, h1, h2⟩ | h1)
      · exact ⟨j, hj, by omega, h2⟩
      · exact ⟨i, hi, by omega, h1⟩
    · rintro ⟨j, hj, h1, h2⟩
      rcases Nat.lt_or_ge j i with h4 | h4
      · exact .inl ⟨j, hj, h4, h2⟩
      · obtain rfl : j = i := by omega
        exact .inr h2
  · have hn : ∀ p, S.has [] p ↔ S.has z p ∧ S.has (setL L (i : Int)) p := fun p => by
      constructor
      · intro hp; exact absurd hp (S.has_nil p)
      · rintro ⟨h1, h2⟩
        obtain ⟨j, hj, hji, _, _, e⟩ := (hz p).1 h1
        obtain ⟨_, _, e2⟩ := (setL_has h hi p).1 h2
        have := (List.getElem_inj (h₀ := hj) (h₁ := hi) (msL_nodup L)).1 (e.symm.trans e2)
        omega
    have := S.count_add hc hx (S.set_canon _) S.canon_nil hu hn
    simpa [S.count] using this
theorem upto_all {L : List L3} (h : L.length ≤ 64) {z : List S.R} (hc : S.Canon z) (hz : UpTo L (msL L).length z) : z = [(0, 1114111)] ∧ S.count z = 1114112 := by
  have e : z = [(0, 1114111)] := by
    refine S.canon_eq hc (S.canon_one (by decide)) fun p => ?_
    rw [hz p, S.has_cons]
    constructor
    · rintro ⟨_, _, _, h1, h2, _⟩; exact .inl ⟨h1, h2⟩
    · rintro (⟨h1, h2⟩ | h1)
      · have hm : mkL L p ∈ msL L := (msL_mem h _).2 ⟨p, h1, h2, rfl⟩
        obtain ⟨j, hj, e⟩ := List.getElem_of_mem hm
        exact ⟨j, hj, hj, h1, h2, e.symm⟩
      · exact absurd h1 (S.has_nil p)
  exact ⟨e, by rw [e]; rfl⟩
/-- The least code point of a class. -/
theorem low_has {L : List L3} (h : L.length ≤ 64) {i : Nat} (hi : i < (msL L).length) : (S.low (S.goods (setL L (i : Int)))).2 = true ∧ 0 ≤ (S.low (S.goods (setL L (i : Int)))).1 ∧ mkL L (S.low (S.goods (setL L (i : Int)))).1 = (msL L)[i] ∧ (S.low (S.goods (setL L (i : Int)))).1 ≤ 1114111 ∧ ∀ p, 0 ≤ p → p ≤ 1114111 → mkL L p = (msL L)[i] → (S.low (S.goods (setL L (i : Int)))).1 ≤ p := by
  have hx := setL_canon h (i : Int)
  rw [hx.goods]
  obtain ⟨p, h0, h1, h2⟩ := (msL_mem h _).1 (List.getElem_mem hi)
  have hne : setL L (i : Int) ≠ [] := fun e => by
    have := (setL_has h hi p).2 ⟨h0, h1, h2⟩
    rw [e] at this
    exact S.has_nil p this
  obtain ⟨s1, _, s3⟩ := S.low_spec (setL L (i : Int))
  have ht := s1.2 hne
  obtain ⟨⟨r, hr, er⟩, s5⟩ := s3 ht
  have hg := (S.good_iff r).1 (hx.good r hr)
  have hl := (setL_has h hi (S.low (setL L (i : Int))).1).1 ⟨r, hr, by omega, by omega⟩
  refine ⟨ht, hl.1, hl.2.2, hl.2.1, fun q q0 q1 q2 => ?_⟩
  obtain ⟨x, hx1, hx2, hx3⟩ := (setL_has h hi q).2 ⟨q0, q1, q2⟩
  have := s5 x hx1
  omega
theorem low_rise {L : List L3} (h : L.length ≤ 64) {i j : Nat} (hij : i < j) (hj : j < (msL L).length) : (S.low (S.goods (setL L (i : Int)))).1 < (S.low (S.goods (setL L (j : Int)))).1 := by
  have hi : i < (msL L).length := by omega
  obtain ⟨p, p0, p1, p2, p3⟩ := List.pairwise_iff_getElem.1 (msL_ahead h) i j hi hj hij
  have a := low_has h hi
  have b := low_has h hj
  have c := a.2.2.2.2 p p0 p1 p2
  have d := b.2.2.1
  by_cases hle : (S.low (S.goods (setL L (j : Int)))).1 ≤ p
  · exact absurd d (p3 _ b.2.1 hle)
  · omega
end Go.Proofs.Ytbkcbclloemajaa
