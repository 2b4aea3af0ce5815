/- The walk of SetPoint: it answers true whatever the bytes; nothing that was there has turned. -/
import Derived.Test.YtenheagfijocjaaBounds
namespace Go.Proofs.Ytenheagfijocjaa
open Go.RowKit Go.Shelf

/-- The ranges of single code points. -/
def pR (bs : List UInt8) : List S.R := bs.map fun c => ((c.toNat : Int), (c.toNat : Int))
theorem pR_length (bs : List UInt8) : (pR bs).length = bs.length := by simp [pR]
/-- Which numbers are there. -/
def pIn (bs : List UInt8) (i : Nat) : Bool := bs.any fun c => decide (c.toNat = i)
theorem pIn_iff (bs : List UInt8) (i : Nat) : pIn bs i = true ↔ ∃ c ∈ bs, c.toNat = i := by simp [pIn]
theorem pR_good (bs : List UInt8) : ∀ r ∈ pR bs, S.good r = true := by
  intro r hr
  obtain ⟨c, _, rfl⟩ := List.mem_map.1 hr
  have := c.toNat_lt
  exact (S.good_iff _).2 (by simp only; omega)
theorem pR_hs (bs : List UInt8) (p : Int) : S.hs (pR bs) p ↔ ∃ i : Nat, p = i ∧ pIn bs i = true := by
  rw [S.hs, show S.goods (pR bs) = pR bs from List.filter_eq_self.2 (pR_good bs)]
  constructor
  · rintro ⟨r, hr, h1, h2⟩
    obtain ⟨c, hc, rfl⟩ := List.mem_map.1 hr
    simp only at h1 h2
    exact ⟨c.toNat, by omega, (pIn_iff bs _).2 ⟨c, hc, rfl⟩⟩
  · rintro ⟨i, rfl, hi⟩
    obtain ⟨c, hc, rfl⟩ := (pIn_iff bs _).1 hi
    exact ⟨_, List.mem_map.2 ⟨c, hc, rfl⟩, by simp, by simp⟩
theorem pIn_lt {bs : List UInt8} {i : Nat} (h : pIn bs i = true) : i < 256 := by
  obtain ⟨c, _, rfl⟩ := (pIn_iff bs i).1 h
  exact c.toNat_lt
theorem pSet_hB (bs : List UInt8) (i : Nat) : S.hB (S.set (pR bs)) (i : Int) = pIn bs i := by
  rw [Bool.eq_iff_iff, S.hB_iff, (S.set_canon _).hs, S.set_has, pR_hs]
  constructor
  · rintro ⟨j, e, hj⟩
    obtain rfl : i = j := by omega
    exact hj
  · intro h; exact ⟨i, rfl, h⟩

/-- How many numbers below k are there; how many runs begin below k. -/
def pN (bs : List UInt8) (k : Nat) : Nat := (List.range k).countP fun i => pIn bs i
def pRun (bs : List UInt8) (k : Nat) : Nat := (List.range k).countP fun i => pIn bs i && (i == 0 || !pIn bs (i - 1))
theorem pN_succ (bs : List UInt8) (k : Nat) : pN bs (k + 1) = pN bs k + (if pIn bs k = true then 1 else 0) := by
  unfold pN; rw [List.range_succ, List.countP_append, List.countP_singleton]
theorem pRun_succ (bs : List UInt8) (k : Nat) : pRun bs (k + 1) = pRun bs k + (if (pIn bs k && (k == 0 || !pIn bs (k - 1))) = true then 1 else 0) := by
  unfold pRun; rw [List.range_succ, List.countP_append, List.countP_singleton]
theorem pN_le (bs : List UInt8) (k : Nat) : pN bs k ≤ k := by
  have := List.countP_le_length (p := fun i => pIn bs i) (l := List.range k)
  rw [List.length_range] at this
  exact this
theorem pRun_le (bs : List UInt8) (k : Nat) : pRun bs k ≤ k := by
  have := List.countP_le_length (p := fun i => pIn bs i && (i == 0 || !pIn bs (i - 1))) (l := List.range k)
  rw [List.length_range] at this
  exact this

/-- As many ranges as there are runs. -/
theorem length_runs (n : Nat) : ∀ {l : List S.R}, S.Canon l → (∀ r ∈ l, r.2 < n) → l.length = (List.range n).countP fun i : Nat => S.hasB l (i : Int) && (i == 0 || !S.hasB l ((i : Int) - 1)) := by
  intro l
  induction l with
  | nil => intro _ _; simp [S.hasB]
  | cons r l ih =>
    intro hc hn
    have hr := hc.head
    have h1 := ih hc.tail (fun x hx => hn x (by simp [hx]))
    rw [List.length_cons, h1]
    have h2 := S.countP_or_and (List.range n) (fun i : Nat => decide ((i : Int) = r.1)) (fun i : Nat => S.hasB l (i : Int) && (i == 0 || !S.hasB l ((i : Int) - 1)))
    have h3 : (List.range n).countP (fun i : Nat => decide ((i : Int) = r.1) && (S.hasB l (i : Int) && (i == 0 || !S.hasB l ((i : Int) - 1)))) = 0 := by
      rw [List.countP_eq_zero]
      intro i _ hi
      simp only [Bool.and_eq_true, decide_eq_true_eq, S.hasB_iff] at hi
      have := hc.behind hi.2.1
      omega
    have h4 : (List.range n).countP (fun i : Nat => decide ((i : Int) = r.1)) = 1 := by
      have := S.countP_range_between n r.1 r.1 hr.1 (by omega) (by have := hn r (by simp); omega)
      rw [show (fun i : Nat => decide ((i : Int) = r.1)) = (fun i : Nat => decide (r.1 ≤ (i : Int)) && decide ((i : Int) ≤ r.1)) by
        funext i
        rw [Bool.eq_iff_iff]
        simp
        omega, this]
      omega
    rw [h3, h4] at h2
    have h5 : (List.range n).countP (fun i : Nat => S.hasB (r :: l) (i : Int) && (i == 0 || !S.hasB (r :: l) ((i : Int) - 1))) = (List.range n).countP (fun i : Nat => decide ((i : Int) = r.1) || (S.hasB l (i : Int) && (i == 0 || !S.hasB l ((i : Int) - 1)))) := by
      apply List.countP_congr
      intro i _
      have e1 : S.hasB (r :: l) (i : Int) = true ↔ (r.1 ≤ (i : Int) ∧ (i : Int) ≤ r.2) ∨ S.has l (i : Int) := by rw [S.hasB_iff, S.has_cons]
      have e2 : S.hasB (r :: l) ((i : Int) - 1) = true ↔ (r.1 ≤ (i : Int) - 1 ∧ (i : Int) - 1 ≤ r.2) ∨ S.has l ((i : Int) - 1) := by rw [S.hasB_iff, S.has_cons]
      have b1 := @S.Canon.behind r l hc (i : Int)
      have b2 := @S.Canon.behind r l hc ((i : Int) - 1)
      simp only [Bool.and_eq_true, Bool.or_eq_true, decide_eq_true_eq, Bool.not_eq_true', ← Bool.not_eq_true, e1, e2, S.hasB_iff, beq_iff_eq]
      constructor
      · rintro ⟨h6 | h6, h7⟩
        · left
          rcases h7 with h7 | h7
          · omega
          · have : ¬ (r.1 ≤ (i : Int) - 1 ∧ (i : Int) - 1 ≤ r.2) := fun hh => h7 (.inl hh)
            omega
        · right
          refine ⟨h6, ?_⟩
          rcases h7 with h7 | h7
          · exact .inl h7
          · exact .inr fun hh => h7 (.inr hh)
      · rintro (h6 | ⟨h6, h7⟩)
        · refine ⟨.inl ⟨by omega, by omega⟩, ?_⟩
          right
          rintro (hh | hh)
          · omega
          · have := b2 hh; omega
        · refine ⟨.inr h6, ?_⟩
          right
          have := b1 h6
          rintro (hh | hh)
          · omega
          · rcases h7 with h7 | h7
            · have := b2 hh; omega
            · exact h7 hh
    rw [h5]
    omega
theorem pSet_lt (bs : List UInt8) : ∀ r ∈ S.set (pR bs), r.2 < (256 : Nat) := by
  intro r hr
  have hg := (S.good_iff r).1 ((S.set_canon _).good r hr)
  have : S.hs (pR bs) r.2 := by rw [← S.set_has]; exact ⟨r, hr, by omega, by omega⟩
  obtain ⟨i, e, hi⟩ := (pR_hs bs r.2).1 this
  have := pIn_lt hi
  omega
theorem pSet_hasB (bs : List UInt8) (p : Int) : S.hasB (S.set (pR bs)) p = S.hB (S.set (pR bs)) p := by
  unfold S.hB; rw [(S.set_canon _).goods]
theorem pSet_len (bs : List UInt8) : (S.set (pR bs)).length = pRun bs 256 := by
  rw [length_runs 256 (S.set_canon _) (pSet_lt bs)]
  unfold pRun
  apply List.countP_congr
  intro i _
  rw [pSet_hasB, pSet_hB, pSet_hasB]
  by_cases hi : i = 0
  · subst hi; simp
  · rw [show ((i : Int) - 1) = ((i - 1 : Nat) : Int) by omega, pSet_hB]
theorem pSet_count (bs : List UInt8) : S.count (S.set (pR bs)) = (pN bs 256 : Nat) := by
  rw [S.count_eq 256 (S.set_canon _) (pSet_lt bs)]
  unfold pN
  congr 1
  apply List.countP_congr
  intro i _
  rw [pSet_hasB, pSet_hB]
end Go.Proofs.Ytenheagfijocjaa
