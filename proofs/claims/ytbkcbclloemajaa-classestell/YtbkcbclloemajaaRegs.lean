/- A region that draws its order and whose last operation is a store: what only reads may be taken first, so long as the store waits for it. -/
import Derived.Test.YtbkcbclloemajaaRegr
namespace Go.Proofs.Ytbkcbclloemajaa
open Go.RowKit Go.Shelf
namespace Rst

/-- Whatever order is picked; so long as operation s has not come up, T holds. -/
def anyS (ops : Array Oper) (Q : Exit → Act → World → Prop) (s : Nat) (T : World → Prop) : Nat → Array Bool → Act → World → Prop
  | 0, listed, a, w => Region.ready .any ops listed = [] ∧ Q .normal a w
  | fuel + 1, listed, a, w =>
    (Region.ready .any ops listed = [] → Q .normal a w) ∧
    ∀ i ∈ Region.ready .any ops listed, wpOp Try.prog ops Q i (fun a' w' => ((listed.setIfInBounds i true).getD s true = true ∨ T w') ∧ anyS ops Q s T fuel (listed.setIfInBounds i true) a' w') a w
theorem any_of {ops : Array Oper} {Q : Exit → Act → World → Prop} {s : Nat} {T : World → Prop} : ∀ (fuel : Nat) (listed : Array Bool) (a : Act) (w : World), anyS ops Q s T fuel listed a w → wpAny Try.prog .any ops Q fuel listed a w
  | 0, _, _, _, h => h
  | fuel + 1, _, _, _, h => ⟨h.1, fun i hi => wpOp_mono (fun a' w' h' => any_of fuel _ a' w' h'.2) (h.2 i hi)⟩

theorem first {ops : Array Oper} {Q : Exit → Act → World → Prop} {s : Nat} {T : World → Prop} {i : Nat} {oi : Oper} {v : Value} (hi : ops[i]? = some oi) (hsel : ∀ (j : Nat) (o : Oper) cs b, ops[j]? = some o → o.op ≠ .select cs b)
    (hQ : ∀ c a w, Q (.panic c) (a.put oi.dst v) w → Q (.panic c) a w) (his : s ≠ i) (hwait : ∃ os, ops[s]? = some os ∧ ∃ e ∈ os.after, Region.binds .any e = true ∧ e.on = i) :
    ∀ (fuel : Nat) (listed : Array Bool) (a : Act) (w : World),
      (∀ j oj, ops[j]? = some oj → j ≠ i → listed.getD j true = false → (∀ e ∈ oj.after, Region.binds .any e = true → e.on ≠ i) → oi.apart ops oj = true) →
      i ∈ Region.ready .any ops listed → YieldsIf Try.prog ops T oi v a → T w → listed.getD s true = false →
      anyS ops Q s T fuel (listed.setIfInBounds i true) (a.put oi.dst v) w → anyS ops Q s T (fuel + 1) listed a w := by
  intro fuel
  induction fuel with
  | zero =>
    intro listed a w _ hr hy hT hs H
    refine ⟨fun h => (by rw [h] at hr; cases hr), fun j hj => ?_⟩
    by_cases hji : j = i
    · subst hji
      exact hy.wpOp hi hT ⟨.inr hT, H⟩
    · have := ready_mono hj hji
      rw [H.1] at this
      cases this
  | succ fuel ih =>
    intro listed a w hfree hr hy hT hs H
    refine ⟨fun h => (by rw [h] at hr; cases hr), fun j hj => ?_⟩
    by_cases hji : j = i
    · subst hji
      exact hy.wpOp hi hT ⟨.inr hT, H⟩
    · have h1 := H.2 j (ready_mono hj hji)
      obtain ⟨hjun, oj, hoj, hall⟩ := mem_ready.1 hj
      have hnot : ∀ e ∈ oj.after, Region.binds .any e = true → e.on ≠ i := fun e he hb heq => by
        have h2 := hall e he hb
        have h0 := (mem_ready.1 hr).1
        rw [heq] at h2
        rcases Nat.lt_or_ge i listed.size with h' | h'
        · simp [h'] at h0 h2
          rw [h0] at h2
          cases h2
        · simp [Array.getElem?_eq_none h'] at h2
      have hjs : j ≠ s := by
        rintro rfl
        obtain ⟨os, h3, e, h4, h5, h6⟩ := hwait
        rw [hoj] at h3
        cases h3
        exact hnot e h4 h5 h6
      have h2 := wpOp_putIf hoj (hfree j oj hoj hji hjun hnot) (fun cs b => hsel i oi cs b hi) (fun cs b => hsel j oj cs b hoj) hQ hy h1
      have hs2 : (listed.setIfInBounds j true).getD s true = false := by rw [getD_set_ne true hjs]; exact hs
      have hfree' : ∀ k ok, ops[k]? = some ok → k ≠ i → (listed.setIfInBounds j true).getD k true = false →
          (∀ e ∈ ok.after, Region.binds .any e = true → e.on ≠ i) → oi.apart ops ok = true := fun k ok hk hki hun hno => by
        refine hfree k ok hk hki ?_ hno
        by_cases hjk : j = k
        · subst hjk; exact hjun
        · rw [getD_set_ne true hjk] at hun; exact hun
      refine wpOp_mono (fun a' w' h3 => ?_) h2
      have hT' : T w' := by
        rcases h3.2.1 with h4 | h4
        · rw [Array.setIfInBounds_comm _ _ (Ne.symm hji), getD_set_ne true (Ne.symm his), hs2] at h4
          cases h4
        · exact h4
      refine ⟨.inr hT', ih (listed.setIfInBounds j true) a' w' hfree' (ready_mono hr (Ne.symm hji)) h3.1 hT' hs2 ?_⟩
      rw [Array.setIfInBounds_comm _ _ hji]
      exact h3.2.2
end Rst
end Go.Proofs.Ytbkcbclloemajaa
