/- The pieces cover the code space, each of one membership. -/
import Derived.Test.YtbkcbclloemajaaMk
namespace Go.Proofs.Ytbkcbclloemajaa

/-- Pieces that are all of what lies from 0 up to b, each of one membership. -/
structure Cov (T : List (List S.R)) (n : Nat) (P : List (S.R × Nat)) (b : Int) : Prop where
  each : ∀ q ∈ P, 0 ≤ q.1.1 ∧ q.1.1 ≤ q.1.2 ∧ q.1.2 < b ∧ ∀ p, q.1.1 ≤ p → p ≤ q.1.2 → msk T p n = q.2
  rise : P.Pairwise fun x y => x.1.2 < y.1.1
  all : ∀ p, 0 ≤ p → p < b → ∃ q ∈ P, q.1.1 ≤ p ∧ p ≤ q.1.2
theorem Cov.nil (T : List (List S.R)) (n : Nat) : Cov T n [] 0 := ⟨fun q h => by simp at h, List.Pairwise.nil, fun p h1 h2 => by omega⟩
theorem Cov.snoc {T : List (List S.R)} {n : Nat} {P : List (S.R × Nat)} {b a : Int} {m : Nat} (h : Cov T n P b) (h0 : 0 ≤ b) (hab : b < a) (hm : ∀ p, b ≤ p → p ≤ a - 1 → msk T p n = m) : Cov T n (P ++ [((b, a - 1), m)]) a := by
  refine ⟨fun q hq => ?_, ?_, fun p h1 h2 => ?_⟩
  · rcases List.mem_append.1 hq with hq | hq
    · have := h.each q hq
      exact ⟨this.1, this.2.1, by omega, this.2.2.2⟩
    · obtain rfl : q = ((b, a - 1), m) := by simpa using hq
      exact ⟨h0, by simp only; omega, by simp only; omega, hm⟩
  · refine List.pairwise_append.2 ⟨h.rise, List.pairwise_singleton _ _, fun x hx y hy => ?_⟩
    obtain rfl : y = ((b, a - 1), m) := by simpa using hy
    exact (h.each x hx).2.2.1
  · by_cases hp : p < b
    · obtain ⟨q, hq, h3⟩ := h.all p h1 hp
      exact ⟨q, List.mem_append_left _ hq, h3⟩
    · exact ⟨((b, a - 1), m), by simp, by simp only; omega, by simp only; omega⟩

theorem run_cov (T : List (List S.R)) (n : Nat) (zs : List (Int × Nat)) (hz : zs.Pairwise fun x y => x.1 < y.1) (h0 : ∀ z ∈ zs, 0 ≤ z.1) (hv : ∀ z ∈ zs, (evN (evT T n) z.1).getD 0 = z.2) (c : Int) (hc : ∀ z ∈ zs, z.1 ≤ c)
    (hn : ∀ p, p ≤ c → (evN (evT T n) p).isSome = true → ∃ z ∈ zs, z.1 = p) :
    Cov T n (runP zs).2 (runP zs).1.1 ∧ 0 ≤ (runP zs).1.1 ∧ (∀ p, (runP zs).1.1 ≤ p → p ≤ c → msk T p n = (runP zs).1.2) := by
  rcases List.eq_nil_or_concat zs with rfl | ⟨zs', ⟨a, t⟩, rfl⟩
  · refine ⟨Cov.nil T n, Int.le_refl _, fun p h1 h2 => ?_⟩
    have h3 : msk T p n = msk T (-1) n := mk_still (by simp [runP] at h1; omega) fun q h4 h5 => by
      cases he : evN (evT T n) q with
      | none => rfl
      | some m =>
        obtain ⟨z, hz, _⟩ := hn q (by omega) (by rw [he]; rfl)
        simp at hz
    rw [h3, mk_neg T n (-1) (by omega)]
    rfl
  · rw [List.concat_eq_append] at hz h0 hv hc hn ⊢
    have hp := List.pairwise_append.1 hz
    have hlt : ∀ z ∈ zs', z.1 < a := fun z h => hp.2.2 z h (a, t) (by simp)
    obtain ⟨c1, c2, c3⟩ := run_cov T n zs' hp.1 (fun z h => h0 z (by simp [h])) (fun z h => hv z (by simp [h])) (a - 1) (fun z h => by have := hlt z h; omega) (fun p h1 h2 => by
      obtain ⟨z, hz1, hz2⟩ := hn p (by have := hc (a, t) (by simp); simp only at this; omega) h2
      rcases List.mem_append.1 hz1 with h | h
      · exact ⟨z, h, hz2⟩
      · obtain rfl : z = (a, t) := by simpa using h
        simp only at hz2
        omega)
    have ha0 := h0 (a, t) (by simp)
    have hac := hc (a, t) (by simp)
    have hta := hv (a, t) (by simp)
    have hfa : (runP zs').1.1 ≤ a := by
      rcases List.eq_nil_or_concat zs' with rfl | ⟨zs2, ⟨b, s⟩, rfl⟩
      · exact ha0
      · rw [List.concat_eq_append, runP_snoc]
        have := hlt (b, s) (by simp)
        simp only at this ⊢
        omega
    simp only at ha0 hac hta
    rw [runP_snoc]
    have hnext : ∀ p, a ≤ p → p ≤ c → msk T p n = (runP zs').1.2 ^^^ t := fun p h1 h2 => by
      have h3 : msk T p n = msk T a n := mk_still h1 fun q h4 h5 => by
        cases he : evN (evT T n) q with
        | none => rfl
        | some m =>
          obtain ⟨z, hz1, hz2⟩ := hn q (by omega) (by rw [he]; rfl)
          rcases List.mem_append.1 hz1 with h | h
          · have := hlt z h; omega
          · obtain rfl : z = (a, t) := by simpa using h
            simp only at hz2
            omega
      rw [h3, mk_step, hta]
      congr 1
      by_cases hfa2 : (runP zs').1.1 ≤ a - 1
      · exact c3 (a - 1) hfa2 (Int.le_refl _)
      · -- the first end, at 0
        have e0 : a = 0 ∧ zs' = [] := by
          rcases List.eq_nil_or_concat zs' with rfl | ⟨zs2, ⟨b, s⟩, rfl⟩
          · simp [runP] at hfa2
            exact ⟨by omega, rfl⟩
          · rw [List.concat_eq_append, runP_snoc] at hfa2
            have := hlt (b, s) (by simp)
            simp only at this hfa2
            omega
        obtain ⟨rfl, rfl⟩ := e0
        rw [mk_neg T n _ (by omega)]
        rfl
    refine ⟨?_, ha0, hnext⟩
    split
    · rename_i hlt2
      exact c1.snoc c2 hlt2 c3
    · have : (runP zs').1.1 = a := by omega
      rw [List.append_nil]
      rw [this] at c1
      exact c1
termination_by zs.length
decreasing_by simp_all

theorem pieces_cov (ls : List L3) (hl : ls.length ≤ 64) : Cov (TOf ls) ls.length (pieces (endsZ ls)) 1114112 := by
  have hin := endsZ_in ls hl
  have hb := runP_bounds hin
  have hsrt : (endsZ ls).Pairwise fun x y => x.1 < y.1 := by
    unfold endsZ
    exact List.pairwise_map.2 (ksOf_sorted _)
  have hv : ∀ z ∈ endsZ ls, (evN (evT (TOf ls) ls.length) z.1).getD 0 = z.2 := fun z h => by
    obtain ⟨k, _, rfl⟩ := List.mem_map.1 h
    rfl
  obtain ⟨c1, c2, c3⟩ := run_cov (TOf ls) ls.length (endsZ ls) hsrt (fun z h => (hin z h).1) hv 1114112 (fun z h => (hin z h).2.1) (fun p _ h => by
    obtain ⟨i, hi⟩ := (evN_some _ _).1 h
    exact ⟨_, List.mem_map.2 ⟨p, (ksOf_mem _ _).2 ⟨i, hi⟩, rfl⟩, rfl⟩)
  unfold pieces
  by_cases h : (runP (endsZ ls)).1.1 ≤ 1114111
  · rw [if_pos h]
    have := c1.snoc (a := 1114112) c2 (by omega) fun p h1 h2 => c3 p h1 (by omega)
    exact this
  · rw [if_neg h, List.append_nil]
    have : (runP (endsZ ls)).1.1 = 1114112 := by omega
    rw [this] at c1
    exact c1

/-- What the classes of these pieces are. -/
theorem cov_ms {T : List (List S.R)} {n : Nat} {P : List (S.R × Nat)} (h : Cov T n P 1114112) (m : Nat) : m ∈ msOf P ↔ ∃ p, 0 ≤ p ∧ p ≤ 1114111 ∧ msk T p n = m := by
  rw [msOf_mem]
  constructor
  · rintro ⟨q, hq, rfl⟩
    have := h.each q hq
    exact ⟨q.1.1, this.1, by omega, this.2.2.2 _ (Int.le_refl _) this.2.1⟩
  · rintro ⟨p, h1, h2, rfl⟩
    obtain ⟨q, hq, h3, h4⟩ := h.all p h1 (by omega)
    exact ⟨q, hq, ((h.each q hq).2.2.2 p h3 h4).symm⟩
theorem cov_sets {T : List (List S.R)} {n : Nat} {P : List (S.R × Nat)} (h : Cov T n P 1114112) (m : Nat) (p : Int) : S.has (setsOf P m) p ↔ 0 ≤ p ∧ p ≤ 1114111 ∧ msk T p n = m := by
  unfold setsOf S.has
  constructor
  · rintro ⟨r, hr, h1, h2⟩
    obtain ⟨q, hq, rfl⟩ := List.mem_map.1 hr
    obtain ⟨hq1, hq2⟩ := List.mem_filter.1 hq
    have := h.each q hq1
    have hqm : q.2 = m := by simpa using hq2
    exact ⟨by omega, by omega, by rw [← hqm]; exact this.2.2.2 p h1 h2⟩
  · rintro ⟨h1, h2, rfl⟩
    obtain ⟨q, hq, h3, h4⟩ := h.all p h1 (by omega)
    refine ⟨q.1, List.mem_map.2 ⟨q, List.mem_filter.2 ⟨hq, ?_⟩, rfl⟩, h3, h4⟩
    simpa using ((h.each q hq).2.2.2 p h3 h4).symm
theorem cov_good {T : List (List S.R)} {n : Nat} {P : List (S.R × Nat)} (h : Cov T n P 1114112) (m : Nat) : ∀ r ∈ setsOf P m, S.good r = true := by
  intro r hr
  obtain ⟨q, hq, rfl⟩ := List.mem_map.1 hr
  have := h.each q (List.mem_filter.1 hq).1
  exact (S.good_iff _).2 ⟨this.1, this.2.1, by omega⟩
theorem cov_hs {T : List (List S.R)} {n : Nat} {P : List (S.R × Nat)} (h : Cov T n P 1114112) (m : Nat) (p : Int) : S.hs (setsOf P m) p ↔ 0 ≤ p ∧ p ≤ 1114111 ∧ msk T p n = m := by
  unfold S.hs
  rw [show S.goods (setsOf P m) = setsOf P m from List.filter_eq_self.2 (cov_good h m)]
  exact cov_sets h m p
theorem cov_rise {T : List (List S.R)} {n : Nat} {P : List (S.R × Nat)} (h : Cov T n P 1114112) : (psOf (msOf P) P).Pairwise fun a b => a.1 < b.1 := by
  unfold psOf
  rw [List.pairwise_map]
  exact h.rise.imp_of_mem fun {a b} ha _ hab => by have := h.each a ha; simp only; omega
theorem cov_of {T : List (List S.R)} {n : Nat} {P : List (S.R × Nat)} (h : Cov T n P 1114112) {r q : Int}
    (hq : (1114111 < r ∧ q = -1) ∨ (r ≤ 1114111 ∧ Cnt (psOf (msOf P) P) r 0 ∧ q = -1) ∨ (r ≤ 1114111 ∧ ∃ k, ∃ hk : k < (psOf (msOf P) P).length, Cnt (psOf (msOf P) P) r (k + 1) ∧ q = ((psOf (msOf P) P)[k].2 : Int))) :
    q = if 0 ≤ r ∧ r ≤ 1114111 then ((msOf P).idxOf (msk T r n) : Int) else -1 := by
  rcases hq with ⟨h1, rfl⟩ | ⟨h1, ⟨_, _, h2⟩, rfl⟩ | ⟨h1, k, hk, ⟨_, h2, h3⟩, rfl⟩
  · rw [if_neg (by omega)]
  · by_cases h0 : 0 ≤ r
    · obtain ⟨x, hx, h3, _⟩ := h.all r h0 (by omega)
      obtain ⟨i, hi, rfl⟩ := List.getElem_of_mem hx
      have := h2 i (by simpa [psOf] using hi) (Nat.zero_le _)
      simp only [psOf, List.getElem_map] at this
      omega
    · rw [if_neg (by omega)]
  · have hk' : k < P.length := by simpa [psOf] using hk
    have hle := h2 k hk (by omega)
    simp only [psOf, List.getElem_map] at hle ⊢
    have h0 := (h.each _ (List.getElem_mem hk')).1
    rw [if_pos ⟨by omega, h1⟩]
    obtain ⟨x, hx, h4, h5⟩ := h.all r (by omega) (by omega)
    obtain ⟨i, hi, rfl⟩ := List.getElem_of_mem hx
    have hik : i = k := by
      rcases Nat.lt_trichotomy i k with h6 | h6 | h6
      · have := List.pairwise_iff_getElem.1 h.rise i k hi hk' h6
        omega
      · exact h6
      · have := h3 i (by simpa [psOf] using hi) (by omega)
        simp only [psOf, List.getElem_map] at this
        omega
    subst hik
    rw [(h.each _ (List.getElem_mem hi)).2.2.2 r h4 h5]
end Go.Proofs.Ytbkcbclloemajaa
