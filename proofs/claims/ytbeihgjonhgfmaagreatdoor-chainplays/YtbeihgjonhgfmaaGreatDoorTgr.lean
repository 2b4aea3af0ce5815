/- Regions that draw their order, within a round, with a last store. -/
import Derived.OrdersIn
import Derived.Maps.OwnSet
import Derived.Maps.OwnIn
import Derived.Great.BuildSlice
import Derived.RangeFuncNested
import Derived.RangeFuncCalls
import Derived.OwnWalkIn
import Derived.TacticsInMore
import Derived.Test.YtbeihgjonhgfmaaGreatDoorReg
import Derived.Test.YtbeihgjonhgfmaaGreatDoorProg
namespace Go.Proofs.YtbeihgjonhgfmaaGreatDoor
open Go.RowKit
theorem upon_round {o : Oper} {a : Act} {K K' : Act → World → Prop} {Q : Exit → Act → World → Prop} {l n : Nat} (h : ∀ a w, K a w → K' a w) (r : Result Next) (hr : o.upon Tryz.prog a K Q r) : o.uponIn (Fence.wide.inRound l) n Tryz.prog a K' Q r := by
  cases r with
  | ok x w' =>
    cases x with
    | value v => exact h _ _ hr
    | skip => exact h _ _ hr
    | defer d => exact h _ _ hr
    | enter f args =>
      refine ⟨fun hd => (by cases hd), CallsIn.inRound l (callsIn_wide.2 ?_)⟩
      refine Calls.mono hr ?_
      intro e w'' he
      cases e with
      | returned v => exact h _ _ he
      | panicked c => exact he
      | outgrown => exact he
    | row row args =>
      refine ⟨fun hd => (by cases hd), ?_⟩
      intro c cs _
      obtain ⟨v, w'', h1, h2⟩ := hr c cs
      exact ⟨v, w'', h _ _ h1, stepsIn_wide.2 h2⟩
    | _ => exact (hr : False).elim
  | halt x w' =>
    cases x with
    | panic v => exact hr
    | _ => exact (hr : False).elim

def plainOps (ops : Array Oper) : Bool := ops.toList.all fun o => match o.op with | .defer _ => false | _ => true
theorem plainOps_at {ops : Array Oper} (h : plainOps ops = true) {i : Nat} {o : Oper} (hi : ops[i]? = some o) : ∀ c, o.op ≠ .defer c := by
  intro c hc
  have := List.all_eq_true.1 h o (by rw [← Array.getElem?_toList] at hi; exact List.mem_of_getElem? hi)
  rw [hc] at this
  cases this
theorem any_round {ops : Array Oper} {Q : Exit → Act → World → Prop} {l n : Nat} (hp : plainOps ops = true) (hQ : ¬ LetsOut Q) : ∀ (fuel : Nat) (listed : Array Bool) (a : Act) (w : World), wpAny Tryz.prog .any ops Q fuel listed a w → wpAnyIn (Fence.wide.inRound l) n Tryz.prog .any ops Q fuel listed a w
  | 0, _, _, _, h => h
  | fuel + 1, listed, a, w, h => by
    refine ⟨h.1, fun i hi => ?_⟩
    have h2 := h.2 i hi
    unfold wpOp at h2
    unfold wpOpIn
    cases ho : ops[i]? with
    | none =>
      rw [ho] at h2
      exact any_round hp hQ fuel _ _ _ h2
    | some o =>
      rw [ho] at h2
      simp only at h2 ⊢
      by_cases hw : Region.wanted o (yielded ops a.tmps) = true
      · rw [if_pos hw] at h2 ⊢
        rcases h2 with h2 | h2
        · refine ⟨fun _ _ => trivial, ?_⟩
          rw [Oper.semAt_eq _ _ _ (plainOps_at hp ho)]
          exact upon_round (fun a w h => any_round hp hQ fuel _ a w h) _ h2
        · exact absurd h2.2 hQ
      · rw [if_neg hw] at h2 ⊢
        exact ⟨fun _ _ => trivial, any_round hp hQ fuel _ _ _ h2⟩
namespace Rst

/-- Whatever order is picked; so long as operation s has not come up, T holds. -/
def anyS (ops : Array Oper) (Q : Exit → Act → World → Prop) (s : Nat) (T : World → Prop) : Nat → Array Bool → Act → World → Prop
  | 0, listed, a, w => Region.ready .any ops listed = [] ∧ Q .normal a w
  | fuel + 1, listed, a, w =>
    (Region.ready .any ops listed = [] → Q .normal a w) ∧
    ∀ i ∈ Region.ready .any ops listed, wpOp Tryz.prog ops Q i (fun a' w' => ((listed.setIfInBounds i true).getD s true = true ∨ T w') ∧ anyS ops Q s T fuel (listed.setIfInBounds i true) a' w') a w
theorem any_of {ops : Array Oper} {Q : Exit → Act → World → Prop} {s : Nat} {T : World → Prop} : ∀ (fuel : Nat) (listed : Array Bool) (a : Act) (w : World), anyS ops Q s T fuel listed a w → wpAny Tryz.prog .any ops Q fuel listed a w
  | 0, _, _, _, h => h
  | fuel + 1, _, _, _, h => ⟨h.1, fun i hi => wpOp_mono (fun a' w' h' => any_of fuel _ a' w' h'.2) (h.2 i hi)⟩

theorem first {ops : Array Oper} {Q : Exit → Act → World → Prop} {s : Nat} {T : World → Prop} {i : Nat} {oi : Oper} {v : Value} (hi : ops[i]? = some oi) (hsel : ∀ (j : Nat) (o : Oper) cs b, ops[j]? = some o → o.op ≠ .select cs b)
    (hQ : ∀ c a w, Q (.panic c) (a.put oi.dst v) w → Q (.panic c) a w) (his : s ≠ i) (hwait : ∃ os, ops[s]? = some os ∧ ∃ e ∈ os.after, Region.binds .any e = true ∧ e.on = i) :
    ∀ (fuel : Nat) (listed : Array Bool) (a : Act) (w : World),
      (∀ j oj, ops[j]? = some oj → j ≠ i → listed.getD j true = false → (∀ e ∈ oj.after, Region.binds .any e = true → e.on ≠ i) → oi.apart ops oj = true) →
      i ∈ Region.ready .any ops listed → YieldsIf Tryz.prog ops T oi v a → T w → listed.getD s true = false →
      anyS ops Q s T fuel (listed.setIfInBounds i true) (a.put oi.dst v) w → anyS ops Q s T (fuel + 1) listed a w := by
  intro fuel
  induction fuel with
  | zero =>
    intro listed a w _ hr hy hT hs H
    refine ⟨fun h => (by rw [h] at hr; cases hr), fun j hj => ?_⟩
    by_cases hji : j = i
    · subst hji
      exact hy.wpOp hi hT ⟨.inr hT, H⟩
    · have := ready_mono hj hji
      rw [H.1] at this
      cases this
  | succ fuel ih =>
    intro listed a w hfree hr hy hT hs H
    refine ⟨fun h => (by rw [h] at hr; cases hr), fun j hj => ?_⟩
    by_cases hji : j = i
    · subst hji
      exact hy.wpOp hi hT ⟨.inr hT, H⟩
    · have h1 := H.2 j (ready_mono hj hji)
      obtain ⟨hjun, oj, hoj, hall⟩ := mem_ready.1 hj
      have hnot : ∀ e ∈ oj.after, Region.binds .any e = true → e.on ≠ i := fun e he hb heq => by
        have h2 := hall e he hb
        have h0 := (mem_ready.1 hr).1
        rw [heq] at h2
        rcases Nat.lt_or_ge i listed.size with h' | h'
        · simp [h'] at h0 h2
          rw [h0] at h2
          cases h2
        · simp [Array.getElem?_eq_none h'] at h2
      have hjs : j ≠ s := by
        rintro rfl
        obtain ⟨os, h3, e, h4, h5, h6⟩ := hwait
        rw [hoj] at h3
        cases h3
        exact hnot e h4 h5 h6
      have h2 := wpOp_putIf hoj (hfree j oj hoj hji hjun hnot) (fun cs b => hsel i oi cs b hi) (fun cs b => hsel j oj cs b hoj) hQ hy h1
      have hs2 : (listed.setIfInBounds j true).getD s true = false := by rw [getD_set_ne true hjs]; exact hs
      have hfree' : ∀ k ok, ops[k]? = some ok → k ≠ i → (listed.setIfInBounds j true).getD k true = false →
          (∀ e ∈ ok.after, Region.binds .any e = true → e.on ≠ i) → oi.apart ops ok = true := fun k ok hk hki hun hno => by
        refine hfree k ok hk hki ?_ hno
        by_cases hjk : j = k
        · subst hjk; exact hjun
        · rw [getD_set_ne true hjk] at hun; exact hun
      refine wpOp_mono (fun a' w' h3 => ?_) h2
      have hT' : T w' := by
        rcases h3.2.1 with h4 | h4
        · rw [Array.setIfInBounds_comm _ _ (Ne.symm hji), getD_set_ne true (Ne.symm his), hs2] at h4
          cases h4
        · exact h4
      refine ⟨.inr hT', ih (listed.setIfInBounds j true) a' w' hfree' (ready_mono hr (Ne.symm hji)) h3.1 hT' hs2 ?_⟩
      rw [Array.setIfInBounds_comm _ _ hji]
      exact h3.2.2
def G2 (ops : Array Oper) (Q : Exit → Act → World → Prop) (a : Act) (s : Nat) (T : World → Prop) (fuel : Nat) (ks : List Nat) (l : List (Nat × Value)) (w : World) : Prop :=
  anyS ops Q s T fuel (Reg.lst ops.size ks) (Reg.ov a l) w
def waits (ops : Array Oper) (s i : Nat) : Bool :=
  match ops[s]? with
  | some os => os.after.toList.any fun e => Region.binds .any e && Nat.beq e.on i
  | none => false
theorem waits_spec {ops : Array Oper} {s i : Nat} (h : waits ops s i = true) : ∃ os, ops[s]? = some os ∧ ∃ e ∈ os.after, Region.binds .any e = true ∧ e.on = i := by
  unfold waits at h
  cases ho : ops[s]? with
  | none => rw [ho] at h; cases h
  | some os =>
    rw [ho] at h
    obtain ⟨e, he, h2⟩ := List.any_eq_true.1 h
    simp only [Bool.and_eq_true] at h2
    exact ⟨os, rfl, e, by simpa using he, h2.1, Nat.eq_of_beq_eq_true h2.2⟩
section
variable {ops : Array Oper} {Q : Exit → Act → World → Prop} {a : Act} {s : Nat} {T : World → Prop} {fuel : Nat} {ks : List Nat} {l : List (Nat × Value)} {w : World}
theorem start {id : Nat} (s : Nat) (T : World → Prop) (hm : Tryz.prog.follows .mixedOrders = true) (h : G2 ops Q a s T ops.size [] [] w.drew) : (Code.region id ops true).wp Tryz.prog Q a w :=
  wp_region_any hm (any_of _ _ _ _ h)
theorem take (hQ : ∀ c (a : Act) (d : Nat) v w, Q (.panic c) (a.put (some d) v) w → Q (.panic c) a w) (i : Nat) (o : Oper) (d : Nat) (v : Value) (hi : ops[i]? = some o)
    (hc : (Region.noSelect ops && (Region.free .any ops (Reg.lst ops.size ks) i && ((Region.ready .any ops (Reg.lst ops.size ks)).contains i && (!(Nat.beq s i) && (waits ops s i && !((Reg.lst ops.size ks).getD s true)))))) = true) (hd : o.dst = some d) (hb : Reg.inB a l = true) (hw : Reg.wantB ops a l o = true)
    (hT : T w) (hy : ∀ w', T w' → (execOp (Reg.ev a l) o).run Tryz.prog w' = .ok (.value v) w') (h : G2 ops Q a s T fuel (i :: ks) ((d, v) :: l) w) : G2 ops Q a s T (fuel + 1) ks l w := by
  simp only [Bool.and_eq_true, Bool.not_eq_true'] at hc
  obtain ⟨hs, hf, hr, h1, h2, h3⟩ := hc
  refine first (v := v) hi (Region.noSelect_spec hs) (fun c a' w' hh => hQ c a' d v w' (by rw [hd] at hh; exact hh)) (fun e => by rw [e, Nat.beq_refl] at h1; cases h1) (waits_spec h2) fuel _ _ w (Region.free_spec hi hf) (by simpa using hr) (.inl ⟨Reg.wanted_of ops a l o hb hw, fun w' hw' => ?_⟩) hT h3 ?_
  · rw [Reg.ov_eval a l hb]; exact hy w' hw'
  · rw [hd]; exact h
theorem only (i : Nat) (o : Oper) (d : Nat) (hi : ops[i]? = some o) (hr : Region.ready .any ops (Reg.lst ops.size ks) = [i]) (hd : o.dst = some d) (hb : Reg.inB a l = true) (hw : Reg.wantB ops a l o = true)
    (h : ∃ v w', (execOp (Reg.ev a l) o).run Tryz.prog w = .ok (.value v) w' ∧ T w' ∧ G2 ops Q a s T fuel (i :: ks) ((d, v) :: l) w') : G2 ops Q a s T (fuel + 1) ks l w := by
  obtain ⟨v, w', hrun, hT, hg⟩ := h
  refine ⟨fun h0 => (by rw [hr] at h0; cases h0), ?_⟩
  rw [hr]
  intro j hj
  obtain rfl : j = i := by simpa using hj
  unfold wpOp
  simp only [hi]
  rw [if_pos (Reg.wanted_of ops a l o hb hw)]
  refine .inl ?_
  unfold Oper.wp
  rw [Reg.ov_eval a l hb, hrun]
  simp only [Oper.upon, hd]
  exact ⟨.inr hT, hg⟩
/-- The only operation that may come up now is a call of a Go function. -/
theorem call (i : Nat) (o : Oper) (d f : Nat) (xs : Array Operand) (ats : Array TypeId) (vs : Array Value) (hi : ops[i]? = some o) (hr : Region.ready .any ops (Reg.lst ops.size ks) = [i]) (hd : o.dst = some d) (hb : Reg.inB a l = true) (hw : Reg.wantB ops a l o = true)
    (hop : o.op = .call { callee := .value (.func f), args := xs, argTypes := ats }) (hvs : #[] ++ xs.map (Reg.ev a l) ++ #[] = vs) (hent : (callFunc f vs).run Tryz.prog w = .ok (.enter f vs) w)
    {R : Ending → World → Prop} (hc : Calls Tryz.prog f vs w R) (hR : ∀ e w', R e w' → ∃ v, e = .returned v ∧ T w' ∧ G2 ops Q a s T fuel (i :: ks) ((d, v) :: l) w') : G2 ops Q a s T (fuel + 1) ks l w := by
  refine ⟨fun h0 => (by rw [hr] at h0; cases h0), ?_⟩
  rw [hr]
  intro j hj
  obtain rfl : j = i := by simpa using hj
  unfold wpOp
  simp only [hi]
  rw [if_pos (Reg.wanted_of ops a l o hb hw)]
  refine .inl ?_
  unfold Oper.wp
  have he : (execOp (Reg.ev a l) o).run Tryz.prog w = .ok (.enter f vs) w := by
    obtain ⟨dst, op, type, pos, after, guard⟩ := o
    simp only at hop
    subst hop
    show (callFunc f (#[] ++ xs.map (Reg.ev a l) ++ #[])).run Tryz.prog w = _
    rw [hvs]
    exact hent
  rw [Reg.ov_eval a l hb, he]
  simp only [Oper.upon]
  refine hc.mono fun e w' hr' => ?_
  obtain ⟨v, rfl, hT, hg⟩ := hR e w' hr'
  simp only [hd]
  exact ⟨.inr hT, hg⟩
theorem last (o : Oper) (hi : ops[s]? = some o) (hr : Region.ready .any ops (Reg.lst ops.size ks) = [s]) (hd : o.dst = none) (hb : Reg.inB a l = true) (hw : Reg.wantB ops a l o = true)
    (h : ∃ w', (execOp (Reg.ev a l) o).run Tryz.prog w = .ok .skip w' ∧ G2 ops Q a s T fuel (s :: ks) l w') : G2 ops Q a s T (fuel + 1) ks l w := by
  obtain ⟨w', hrun, hg⟩ := h
  refine ⟨fun h0 => (by rw [hr] at h0; cases h0), ?_⟩
  rw [hr]
  intro j hj
  obtain rfl : j = s := by simpa using hj
  unfold wpOp
  simp only [hi]
  rw [if_pos (Reg.wanted_of ops a l o hb hw)]
  refine .inl ?_
  unfold Oper.wp
  rw [Reg.ov_eval a l hb, hrun]
  simp only [Oper.upon, hd]
  refine ⟨.inl ?_, hg⟩
  rw [Array.getD_eq_getD_getElem?, Array.getElem?_setIfInBounds]
  simp only [if_true]
  split <;> simp
/-- Behind the store: an operation that yields a value. -/
theorem after (i : Nat) (o : Oper) (d : Nat) (hi : ops[i]? = some o) (hr : Region.ready .any ops (Reg.lst ops.size ks) = [i]) (hd : o.dst = some d) (hb : Reg.inB a l = true) (hw : Reg.wantB ops a l o = true) (hs : ((Reg.lst ops.size ks).setIfInBounds i true).getD s true = true)
    (h : ∃ v w', (execOp (Reg.ev a l) o).run Tryz.prog w = .ok (.value v) w' ∧ G2 ops Q a s T fuel (i :: ks) ((d, v) :: l) w') : G2 ops Q a s T (fuel + 1) ks l w := by
  obtain ⟨v, w', hrun, hg⟩ := h
  refine ⟨fun h0 => (by rw [hr] at h0; cases h0), ?_⟩
  rw [hr]
  intro j hj
  obtain rfl : j = i := by simpa using hj
  unfold wpOp
  simp only [hi]
  rw [if_pos (Reg.wanted_of ops a l o hb hw)]
  refine .inl ?_
  unfold Oper.wp
  rw [Reg.ov_eval a l hb, hrun]
  simp only [Oper.upon, hd]
  exact ⟨.inl hs, hg⟩
theorem done (hr : Region.ready .any ops (Reg.lst ops.size ks) = []) (h : Q .normal (Reg.ov a l) w) : G2 ops Q a s T fuel ks l w := by
  unfold G2
  cases fuel with
  | zero => exact ⟨hr, h⟩
  | succ f => exact ⟨fun _ => h, by rw [hr]; simp⟩
end
end Rst
theorem Rst.startR {ops : Array Oper} {Q : Exit → Act → World → Prop} {a : Act} {w : World} {id lp n : Nat} (s : Nat) (T : World → Prop) (hm : Tryz.prog.follows .mixedOrders = true) (hp : plainOps ops = true) (hQ : ¬ LetsOut Q) (h : Rst.G2 ops Q a s T ops.size [] [] w.drew) :
    (Code.region id ops true).wpIn (Fence.wide.inRound lp) n Tryz.prog Q a w :=
  wpIn_region_any hm (any_round hp hQ _ _ _ _ (Rst.any_of _ _ _ _ h))
theorem Reg.ldS {P : Program} {w : World} {ρ : Operand → Value} {o : Oper} {ty : TypeId} {x : Operand} {a : Addr} {v : Value} (hop : o.op = .load ty x) (hx : ρ x = .pointer (some a)) (hc : w.cell? a = some v) (hagg : (isAgg ty).run P w = .ok false w) : (execOp ρ o).run P w = .ok (.value v) w := by
  obtain ⟨dst, op, type, pos, after, guard⟩ := o
  simp only at hop
  subst hop
  simp [execOp, hx, Instr.loadAt, Instr.sureAddr, loadVar, Sem.run_bind, hc, hagg, Result.andThen, go_sem]
theorem Reg.st1 {P : Program} {w : World} {ρ : Operand → Value} {o : Oper} {ty : TypeId} {x y : Operand} {b off : Nat} {u v : Value} (hop : o.op = .store ty x y) (hx : ρ x = .pointer (some ⟨b, off, none⟩)) (hy : ρ y = v) (hc : w.cell? ⟨b, off, none⟩ = some u) (hf : w.frozen? ⟨b, off, none⟩ = false) (h1 : (∃ k n, v = .int k n) ∨ ∃ ao n c, v = .slice ao n c) (hsz : (sizeOf ty).run P w = .ok 1 w) : (execOp ρ o).run P w = .ok .skip (w.setCell ⟨b, off, none⟩ v) := by
  obtain ⟨dst, op, type, pos, after, guard⟩ := o
  simp only at hop
  subst hop
  have hs : (Instr.storeAt ty (.pointer (some ⟨b, off, none⟩)) v).run P w = .ok () (w.setCell ⟨b, off, none⟩ v) := by
    rcases h1 with ⟨k, n, rfl⟩ | ⟨ao, n, c, rfl⟩ <;> simp [Instr.storeAt, Instr.sureAddr, storeVar, Sem.run_bind, hsz, hc, hf, Result.andThen, go_sem]
  simp [execOp, hx, hy, hs, Result.andThen]
theorem Reg.bs {w : World} {ρ : Operand → Value} {o : Oper} {P : Program} {t e : TypeId} {len : Nat} {ps : Array (Nat × Operand)} {vs : Array (Nat × Value)} {cs : Array Value} (ie : TypeInfo) (z : Value) (hop : o.op = .buildSlice t len ps) (hx : ps.map (fun (i, x) => (i, ρ x)) = vs)
    (hu : P.underlying t = some (.slice e)) (hie : P.info? e = some ie) (hz : ie.zero = some z) (hsmall : ¬ len * ie.size > 2 ^ 24) (hpos : ¬ len * ie.size = 0)
    (h : Instr.fill (fun i => some (i * ie.size, ie.size)) ((Array.range (len * ie.size)).map (z.cells[· % z.cells.size]!)) vs.toList = some cs) :
    (execOp ρ o).run P w = .ok (.value (.slice (some ⟨w.heap.size, 0, none⟩) len len)) (w.alloc (.cells cs e)) := by
  obtain ⟨dst, op, type, pos, after, guard⟩ := o
  simp only at hop
  subst hop
  simp only [execOp]
  rw [hx, Sem.run_bind, run_buildSlice w t e len vs cs ie z hu hie hz hsmall hpos h]
  rfl
end Go.Proofs.YtbeihgjonhgfmaaGreatDoor
