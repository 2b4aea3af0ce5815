/- A class's pieces never touch: its set is one as it stands. -/
import Derived.Test.YtbkcbclloemajaaOrdm
namespace Go.Proofs.Ytbkcbclloemajaa

theorem canon_begin {zs : List S.R} (hc : S.Canon zs) {r : S.R} (hr : r ∈ zs) : S.hasB zs r.1 = true ∧ S.hasB zs (r.1 - 1) = false ∧ S.hasB zs r.2 = true ∧ S.hasB zs (r.2 + 1) = false := by
  have hg := (S.good_iff r).1 (hc.good r hr)
  have hap : ∀ x ∈ zs, x ≠ r → x.2 + 1 < r.1 ∨ r.2 + 1 < x.1 := fun x hx hne => by
    obtain ⟨i, hi, rfl⟩ := List.getElem_of_mem hx
    obtain ⟨j, hj, rfl⟩ := List.getElem_of_mem hr
    rcases Nat.lt_trichotomy i j with h | h | h
    · exact .inl (List.pairwise_iff_getElem.1 hc.apart i j hi hj h)
    · subst h; exact absurd rfl hne
    · exact .inr (List.pairwise_iff_getElem.1 hc.apart j i hj hi h)
  have no : ∀ p, ¬ (r.1 ≤ p ∧ p ≤ r.2) → r.1 - 1 ≤ p → p ≤ r.2 + 1 → S.hasB zs p = false := fun p h1 h2 h3 => by
    cases h : S.hasB zs p with
    | false => rfl
    | true =>
      obtain ⟨x, hx, h4, h5⟩ := (S.hasB_iff zs p).1 h
      by_cases e : x = r
      · subst e; exact absurd ⟨h4, h5⟩ h1
      · rcases hap x hx e with h6 | h6 <;> omega
  exact ⟨(S.hasB_iff _ _).2 ⟨r, hr, Int.le_refl _, hg.2.1⟩, no _ (by omega) (by omega) (by omega), (S.hasB_iff _ _).2 ⟨r, hr, hg.2.1, Int.le_refl _⟩, no _ (by omega) (by omega) (by omega)⟩
theorem key_turns {T : List (List S.R)} {n : Nat} {a : Int} {i : Nat} (h : (a, i) ∈ evT T n) : msk T a n ≠ msk T (a - 1) n := by
  have hin := evT_lt h
  obtain ⟨k, hk, h1⟩ := List.mem_flatMap.1 h
  obtain ⟨h2, r, hr, h3⟩ := evR_mem h1
  simp only at h2 h3 hin
  subst h2
  intro e
  have hb : (msk T a n).testBit i = (msk T (a - 1) n).testBit i := by rw [e]
  rw [mk_bit, mk_bit, hB_set, hB_set] at hb
  simp only [hin, decide_true, Bool.true_and] at hb
  obtain ⟨c1, c2, c3, c4⟩ := canon_begin (S.set_canon (T.getD i [])) hr
  rcases h3 with rfl | rfl
  · rw [c1, c2] at hb; cases hb
  · rw [show r.2 + 1 - 1 = r.2 by omega, c3, c4] at hb; cases hb
theorem run_begins (zs : List (Int × Nat)) : ((runP zs).1.1 = 0 ∨ ∃ z ∈ zs, z.1 = (runP zs).1.1) ∧ ∀ q ∈ (runP zs).2, q.1.1 = 0 ∨ ∃ z ∈ zs, z.1 = q.1.1 := by
  rcases List.eq_nil_or_concat zs with rfl | ⟨zs', ⟨a, t⟩, rfl⟩
  · exact ⟨.inl rfl, fun q hq => by simp [runP] at hq⟩
  · rw [List.concat_eq_append, runP_snoc]
    obtain ⟨h1, h2⟩ := run_begins zs'
    have lift : ∀ b, (b = 0 ∨ ∃ z ∈ zs', z.1 = b) → b = 0 ∨ ∃ z ∈ zs' ++ [(a, t)], z.1 = b := fun b hb => hb.imp id fun ⟨z, hz, e⟩ => ⟨z, List.mem_append_left _ hz, e⟩
    refine ⟨.inr ⟨(a, t), by simp, rfl⟩, fun q hq => ?_⟩
    simp only at hq
    split at hq
    · rcases List.mem_append.1 hq with h | h
      · exact lift _ (h2 q h)
      · obtain rfl : q = _ := by simpa using h
        exact lift _ h1
    · rw [List.append_nil] at hq
      exact lift _ (h2 q hq)
termination_by zs.length
decreasing_by simp_all
theorem PC_begins (L : List L3) {q : S.R × Nat} (hq : q ∈ PC L) : q.1.1 = 0 ∨ mkL L q.1.1 ≠ mkL L (q.1.1 - 1) := by
  have hb := run_begins (endsZ L)
  have hz : q.1.1 = 0 ∨ ∃ z ∈ endsZ L, z.1 = q.1.1 := by
    unfold PC pieces at hq
    split at hq
    · rcases List.mem_append.1 hq with h | h
      · exact hb.2 q h
      · obtain rfl : q = _ := by simpa using h
        exact hb.1
    · rw [List.append_nil] at hq
      exact hb.2 q hq
  refine hz.imp id ?_
  rintro ⟨z, hz, e⟩
  obtain ⟨k, hk, rfl⟩ := List.mem_map.1 hz
  obtain ⟨i, hi⟩ := (ksOf_mem _ _).1 hk
  rw [← e]
  exact key_turns hi
/-- A class's set is a set. -/
theorem stL_canon {L : List L3} (h : L.length ≤ 64) (m : Nat) : S.Canon (stL L m) := by
  have hc := PC_cov L h
  refine ⟨cov_good hc m, ?_⟩
  unfold stL setsOf
  rw [List.pairwise_map]
  have hr := hc.rise.filter (fun p : S.R × Nat => p.2 == m)
  refine List.Pairwise.imp_of_mem (fun {x y} hx hy hxy => ?_) hr
  obtain ⟨hx1, hx2⟩ := List.mem_filter.1 hx
  obtain ⟨hy1, hy2⟩ := List.mem_filter.1 hy
  have ex := hc.each x hx1
  have ey := hc.each y hy1
  have mx : x.2 = m := by simpa using hx2
  have my : y.2 = m := by simpa using hy2
  have hne : ¬ x.1.2 + 1 = y.1.1 := fun e => by
    rcases PC_begins L hy1 with h0 | h0
    · omega
    · apply h0
      show msk (TOf L) y.1.1 L.length = msk (TOf L) (y.1.1 - 1) L.length
      rw [ey.2.2.2 _ (Int.le_refl _) ey.2.1, ex.2.2.2 (y.1.1 - 1) (by omega) (by omega), mx, my]
  omega
theorem setL_canon {L : List L3} (h : L.length ≤ 64) (j : Int) : S.Canon (setL L j) := by
  unfold setL
  split
  · cases (msL L)[j.toNat]? with
    | none => exact S.canon_nil
    | some m => exact stL_canon h m
  · exact S.canon_nil
end Go.Proofs.Ytbkcbclloemajaa
