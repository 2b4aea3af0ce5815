/- Regions that draw their order: what touches no memory is taken first; several that may come up. -/
import Derived.Laws.CopyOwn
import Derived.Laws.CopyRow
import Derived.Laws.IdiomCopy
import Derived.Test.YtbeihgjonhgfmaaGreatDoorCrp
namespace Go.Proofs.YtbeihgjonhgfmaaGreatDoor
open Go.RowKit Go.Shelf Go.Maps
namespace Rst
theorem firstP {ops : Array Oper} {Q : Exit → Act → World → Prop} {s : Nat} {T : World → Prop} {i : Nat} {oi : Oper} {v : Value} (hi : ops[i]? = some oi) (hsel : ∀ (j : Nat) (o : Oper) cs b, ops[j]? = some o → o.op ≠ .select cs b)
    (hQ : ∀ c a w, Q (.panic c) (a.put oi.dst v) w → Q (.panic c) a w) (his : s ≠ i) :
    ∀ (fuel : Nat) (listed : Array Bool) (a : Act) (w : World),
      (∀ j oj, ops[j]? = some oj → j ≠ i → listed.getD j true = false → (∀ e ∈ oj.after, Region.binds .any e = true → e.on ≠ i) → oi.apart ops oj = true) →
      i ∈ Region.ready .any ops listed → YieldsIf Tryz.prog ops (fun _ => True) oi v a → (listed.getD s true = true ∨ T w) →
      anyS ops Q s T fuel (listed.setIfInBounds i true) (a.put oi.dst v) w → anyS ops Q s T (fuel + 1) listed a w := by
  intro fuel
  induction fuel with
  | zero =>
    intro listed a w _ hr hy hT H
    refine ⟨fun h => (by rw [h] at hr; cases hr), fun j hj => ?_⟩
    by_cases hji : j = i
    · subst hji
      exact hy.wpOp hi trivial ⟨by rw [getD_set_ne true (Ne.symm his)]; exact hT, H⟩
    · have := ready_mono hj hji
      rw [H.1] at this
      cases this
  | succ fuel ih =>
    intro listed a w hfree hr hy hT H
    refine ⟨fun h => (by rw [h] at hr; cases hr), fun j hj => ?_⟩
    by_cases hji : j = i
    · subst hji
      exact hy.wpOp hi trivial ⟨by rw [getD_set_ne true (Ne.symm his)]; exact hT, H⟩
    · have h1 := H.2 j (ready_mono hj hji)
      obtain ⟨hjun, oj, hoj, hall⟩ := mem_ready.1 hj
      have hnot : ∀ e ∈ oj.after, Region.binds .any e = true → e.on ≠ i := fun e he hb heq => by
        have h2 := hall e he hb
        have h0 := (mem_ready.1 hr).1
        rw [heq] at h2
        rcases Nat.lt_or_ge i listed.size with h' | h'
        · simp [h'] at h0 h2
          rw [h0] at h2
          cases h2
        · simp [Array.getElem?_eq_none h'] at h2
      have h2 := wpOp_putIf hoj (hfree j oj hoj hji hjun hnot) (fun cs b => hsel i oi cs b hi) (fun cs b => hsel j oj cs b hoj) hQ hy h1
      have hfree' : ∀ k ok, ops[k]? = some ok → k ≠ i → (listed.setIfInBounds j true).getD k true = false →
          (∀ e ∈ ok.after, Region.binds .any e = true → e.on ≠ i) → oi.apart ops ok = true := fun k ok hk hki hun hno => by
        refine hfree k ok hk hki ?_ hno
        by_cases hjk : j = k
        · subst hjk; exact hjun
        · rw [getD_set_ne true hjk] at hun; exact hun
      refine wpOp_mono (fun a' w' h3 => ?_) h2
      have hT' : (listed.setIfInBounds j true).getD s true = true ∨ T w' := by
        rcases h3.2.1 with h4 | h4
        · rw [Array.setIfInBounds_comm _ _ (Ne.symm hji), getD_set_ne true (Ne.symm his)] at h4
          exact .inl h4
        · exact .inr h4
      refine ⟨hT', ih (listed.setIfInBounds j true) a' w' hfree' (ready_mono hr (Ne.symm hji)) h3.1 hT' ?_⟩
      rw [Array.setIfInBounds_comm _ _ hji]
      exact h3.2.2
section
variable {ops : Array Oper} {Q : Exit → Act → World → Prop} {a : Act} {s : Nat} {T : World → Prop} {fuel : Nat} {ks : List Nat} {l : List (Nat × Value)} {w : World}
/-- An operation that touches no memory, taken first. -/
theorem takeP (hQ : ∀ c (a : Act) (d : Nat) v w, Q (.panic c) (a.put (some d) v) w → Q (.panic c) a w) (i : Nat) (o : Oper) (d : Nat) (v : Value) (hi : ops[i]? = some o)
    (hc : (Region.noSelect ops && (Region.free .any ops (Reg.lst ops.size ks) i && ((Region.ready .any ops (Reg.lst ops.size ks)).contains i && !(Nat.beq s i)))) = true) (hd : o.dst = some d) (hb : Reg.inB a l = true) (hw : Reg.wantB ops a l o = true)
    (hT : (Reg.lst ops.size ks).getD s true = true ∨ T w) (hy : ∀ w', (execOp (Reg.ev a l) o).run Tryz.prog w' = .ok (.value v) w') (h : G2 ops Q a s T fuel (i :: ks) ((d, v) :: l) w) : G2 ops Q a s T (fuel + 1) ks l w := by
  simp only [Bool.and_eq_true, Bool.not_eq_true'] at hc
  obtain ⟨hs, hf, hr, h1⟩ := hc
  refine firstP (v := v) hi (Region.noSelect_spec hs) (fun c a' w' hh => hQ c a' d v w' (by rw [hd] at hh; exact hh)) (fun e => by rw [e, Nat.beq_refl] at h1; cases h1) fuel _ _ w (Region.free_spec hi hf) (by simpa using hr) (.inl ⟨Reg.wanted_of ops a l o hb hw, fun w' _ => ?_⟩) hT ?_
  · rw [Reg.ov_eval a l hb]; exact hy w'
  · rw [hd]; exact h
theorem weakS {s' : Nat} (hw : waits ops s' s = true) (hne : s' ≠ s) : ∀ (fuel : Nat) (listed : Array Bool) (a : Act) (w : World), (listed.getD s' true = true → listed.getD s true = true) → anyS ops Q s' T fuel listed a w → anyS ops Q s T fuel listed a w
  | 0, _, _, _, _, h => h
  | fuel + 1, listed, a, w, hc, h => by
    refine ⟨h.1, fun i hi => wpOp_mono (fun a' w' h' => ?_) (h.2 i hi)⟩
    have key : (listed.setIfInBounds i true).getD s' true = true → (listed.setIfInBounds i true).getD s true = true := fun h1 => by
      by_cases e : i = s'
      · subst e
        rw [getD_set_ne true hne]
        obtain ⟨os, ho, e1, he1, hb1, hon⟩ := waits_spec hw
        obtain ⟨_, oj, hoj, hall⟩ := mem_ready.1 hi
        rw [ho] at hoj
        cases hoj
        have h2 := hall e1 he1 hb1
        rw [hon] at h2
        rcases Nat.lt_or_ge s listed.size with h' | h'
        · simp [h'] at h2 ⊢
          exact h2
        · simp [Array.getElem?_eq_none h']
      · rw [getD_set_ne true e] at h1
        by_cases e2 : i = s
        · subst e2
          rw [Array.getD_eq_getD_getElem?, Array.getElem?_setIfInBounds]
          simp only [if_true]
          split <;> simp
        · rw [getD_set_ne true e2]
          exact hc h1
    refine ⟨?_, weakS hw hne fuel _ a' w' key h'.2⟩
    rcases h'.1 with h1 | h1
    · exact .inl (key h1)
    · exact .inr h1
theorem weak (s' : Nat) (hw : (waits ops s' s && (!(Nat.beq s' s) && (!((Reg.lst ops.size ks).getD s' true) || (Reg.lst ops.size ks).getD s true))) = true) (h : G2 ops Q a s' T fuel ks l w) : G2 ops Q a s T fuel ks l w := by
  simp only [Bool.and_eq_true, Bool.not_eq_true', Bool.or_eq_true] at hw
  obtain ⟨h1, h2, h3⟩ := hw
  refine weakS h1 (fun e => by rw [e, Nat.beq_refl] at h2; cases h2) _ _ _ _ (fun h4 => ?_) h
  rcases h3 with h3 | h3
  · rw [h3] at h4; cases h4
  · exact h3
/-- What one that may come up asks. -/
def Stp (ops : Array Oper) (Q : Exit → Act → World → Prop) (a : Act) (s : Nat) (T : World → Prop) (fuel : Nat) (ks : List Nat) (l : List (Nat × Value)) (w : World) (i : Nat) : Prop :=
  ∃ o, ops[i]? = some o ∧ Reg.wantB ops a l o = true ∧
    ((∃ d v w', o.dst = some d ∧ (execOp (Reg.ev a l) o).run Tryz.prog w = .ok (.value v) w' ∧ (((Reg.lst ops.size ks).setIfInBounds i true).getD s true = true ∨ T w') ∧ G2 ops Q a s T fuel (i :: ks) ((d, v) :: l) w') ∨
     (∃ w', o.dst = none ∧ (execOp (Reg.ev a l) o).run Tryz.prog w = .ok .skip w' ∧ (((Reg.lst ops.size ks).setIfInBounds i true).getD s true = true ∨ T w') ∧ G2 ops Q a s T fuel (i :: ks) l w'))
theorem pick (is : List Nat) (hb : Reg.inB a l = true) (hr : Region.ready .any ops (Reg.lst ops.size ks) = is) (hne : is ≠ []) (h : ∀ i ∈ is, Stp ops Q a s T fuel ks l w i) : G2 ops Q a s T (fuel + 1) ks l w := by
  refine ⟨fun h0 => absurd (hr.symm.trans h0) hne, ?_⟩
  rw [hr]
  intro j hj
  obtain ⟨o, hi, hw, ⟨d, v, w', hd, hrun, hT, hg⟩ | ⟨w', hd, hrun, hT, hg⟩⟩ := h j hj
  · unfold wpOp
    simp only [hi]
    rw [if_pos (Reg.wanted_of ops a l o hb hw)]
    refine .inl ?_
    unfold Oper.wp
    rw [Reg.ov_eval a l hb, hrun]
    simp only [Oper.upon, hd]
    exact ⟨hT, hg⟩
  · unfold wpOp
    simp only [hi]
    rw [if_pos (Reg.wanted_of ops a l o hb hw)]
    refine .inl ?_
    unfold Oper.wp
    rw [Reg.ov_eval a l hb, hrun]
    simp only [Oper.upon, hd]
    exact ⟨hT, hg⟩
theorem one (i : Nat) (hb : Reg.inB a l = true) (hr : Region.ready .any ops (Reg.lst ops.size ks) = [i]) (h : Stp ops Q a s T fuel ks l w i) : G2 ops Q a s T (fuel + 1) ks l w :=
  pick [i] hb hr (by simp) fun j hj => by rw [List.mem_singleton.1 hj]; exact h
theorem two (i j : Nat) (hb : Reg.inB a l = true) (hr : Region.ready .any ops (Reg.lst ops.size ks) = [i, j]) (h : Stp ops Q a s T fuel ks l w i) (h2 : Stp ops Q a s T fuel ks l w j) : G2 ops Q a s T (fuel + 1) ks l w :=
  pick [i, j] hb hr (by simp) fun k hk => by
    rcases List.mem_cons.1 hk with rfl | hk
    · exact h
    · rw [List.mem_singleton.1 hk]; exact h2
end
end Rst
theorem Reg.sl {P : Program} {w : World} {ρ : Operand → Value} {o : Oper} {t : TypeId} {x y : Operand} {vx vy u : Value} (hop : o.op = .slice t x (some y) none none) (hx : ρ x = vx) (hy : ρ y = vy) (h : (Instr.sliceAt t vx (some vy) none none).run P w = .ok u w) : (execOp ρ o).run P w = .ok (.value u) w := by
  obtain ⟨dst, op, type, pos, after, guard⟩ := o
  simp only at hop
  subst hop
  simp [execOp, hx, hy, h, Result.andThen]
theorem Reg.slTo {P : Program} {w : World} {ρ : Operand → Value} {o : Oper} {t : TypeId} {x y : Operand} {vx vy u : Value} (hop : o.op = .slice t x none (some y) none) (hx : ρ x = vx) (hy : ρ y = vy) (h : (Instr.sliceAt t vx none (some vy) none).run P w = .ok u w) : (execOp ρ o).run P w = .ok (.value u) w := by
  obtain ⟨dst, op, type, pos, after, guard⟩ := o
  simp only at hop
  subst hop
  simp [execOp, hx, hy, h, Result.andThen]
theorem Reg.cpy {P : Program} {w w' : World} {ρ : Operand → Value} {o : Oper} {t u : TypeId} {x y : Operand} {vx vy v : Value} (hop : o.op = .call { callee := .builtin .copy, args := #[x, y], argTypes := #[t, u] }) (hx : ρ x = vx) (hy : ρ y = vy)
    (h : (Builtin.copy_ #[t, u] o.type #[vx, vy]).run P w = .ok v w') : (execOp ρ o).run P w = .ok (.value v) w' := by
  obtain ⟨dst, op, type, pos, after, guard⟩ := o
  simp only at hop h
  subst hop
  simp [execOp, resolve, invoke, builtin, hx, hy, h, Result.andThen]
theorem Reg.adI {w : World} {ρ : Operand → Value} {o : Oper} {x y : Operand} {m n c : Int} (hop : o.op = .binOp .add 3 x y 3) (hx : ρ x = .int .i64 m) (hy : ρ y = .int .i64 n) (h : IntKind.i64.wrap (m + n) = c) : (execOp ρ o).run Tryz.prog w = .ok (.value (.int .i64 c)) w := by
  obtain ⟨dst, op, type, pos, after, guard⟩ := o
  simp only at hop
  subst hop
  simp [execOp, hx, hy, eqGuard, h, go_sem]
theorem Reg.mv {P : Program} {w : World} {ρ : Operand → Value} {o : Oper} {x : Operand} {v : Value} (hop : o.op = .move x) (hx : ρ x = v) : (execOp ρ o).run P w = .ok (.value v) w := by
  obtain ⟨dst, op, type, pos, after, guard⟩ := o
  simp only at hop
  subst hop
  simp [execOp, hx, Sem.run_pure]
theorem Reg.nc {w : World} {ρ : Operand → Value} {o : Oper} {x : Operand} {a : Addr} (hop : o.op = .nilCheck x) (hx : ρ x = .pointer (some a)) : (execOp ρ o).run Tryz.prog w = .ok (.value (.pointer (some a))) w := by
  obtain ⟨dst, op, type, pos, after, guard⟩ := o
  simp only at hop
  subst hop
  simp [execOp, hx, go_sem]
theorem Reg.fa {w : World} {ρ : Operand → Value} {o : Oper} {x : Operand} {b i : Nat} (hop : o.op = .fieldAddr 40 x i) (hx : ρ x = .pointer (some ⟨b, 0, none⟩)) (hi : i = 0 ∨ i = 1) : (execOp ρ o).run Tryz.prog w = .ok (.value (.pointer (some ⟨b, i, none⟩))) w := by
  obtain ⟨dst, op, type, pos, after, guard⟩ := o
  simp only at hop
  subst hop
  rcases hi with rfl | rfl <;> simp [execOp, hx, go_sem]
theorem Reg.stA {P : Program} {w : World} {ρ : Operand → Value} {o : Oper} {ty : TypeId} {x y : Operand} {b off : Nat} {u v : Value} (hop : o.op = .store ty x y) (hx : ρ x = .pointer (some ⟨b, off, none⟩)) (hy : ρ y = v) (hc : w.cell? ⟨b, off, none⟩ = some u) (hf : w.frozen? ⟨b, off, none⟩ = false) (h1 : ∃ s, v = .string s) (hsz : (sizeOf ty).run P w = .ok 1 w) : (execOp ρ o).run P w = .ok .skip (w.setCell ⟨b, off, none⟩ v) := by
  obtain ⟨dst, op, type, pos, after, guard⟩ := o
  simp only at hop
  subst hop
  have hs : (Instr.storeAt ty (.pointer (some ⟨b, off, none⟩)) v).run P w = .ok () (w.setCell ⟨b, off, none⟩ v) := by
    obtain ⟨s, rfl⟩ := h1
    simp [Instr.storeAt, Instr.sureAddr, storeVar, Sem.run_bind, hsz, hc, hf, Result.andThen, go_sem]
  simp [execOp, hx, hy, hs, Result.andThen]
end Go.Proofs.YtbeihgjonhgfmaaGreatDoor
