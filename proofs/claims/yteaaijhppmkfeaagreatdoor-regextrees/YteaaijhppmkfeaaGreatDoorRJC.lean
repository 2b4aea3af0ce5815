/- Joined: URegr URegs URegt UChunk URngs UNms. -/
import Derived.OrdersIn
import Derived.Maps.OwnSet
import Derived.Maps.OwnIn
import Derived.Test.YteaaijhppmkfeaaGreatDoorRJB
import Derived.Great.BuildSlice
/- A region that draws its order, within a round. -/
namespace Go.Proofs.YteaaijhppmkfeaaGreatDoor.U
open Go.RowKit Go.Shelf
theorem upon_round {o : Oper} {a : Act} {K K' : Act → World → Prop} {Q : Exit → Act → World → Prop} {l n : Nat} (h : ∀ a w, K a w → K' a w) (r : Result Next) (hr : o.upon Tryz.prog a K Q r) : o.uponIn (Fence.wide.inRound l) n Tryz.prog a K' Q r := by
 cases r with
 | ok x w' =>
   cases x with
   | value v => exact h _ _ hr
   | skip => exact h _ _ hr
   | defer d => exact h _ _ hr
   | enter f args =>
     refine ⟨fun hd => (by cases hd), CallsIn.inRound l (callsIn_wide.2 ?_)⟩
     refine Calls.mono hr ?_
     intro e w'' he
     cases e with
     | returned v => exact h _ _ he
     | panicked c => exact he
     | outgrown => exact he
   | row row args =>
     refine ⟨fun hd => (by cases hd), ?_⟩
     intro c cs _
     obtain ⟨v, w'', h1, h2⟩ := hr c cs
     exact ⟨v, w'', h _ _ h1, stepsIn_wide.2 h2⟩
   | _ => exact (hr : False).elim
 | halt x w' =>
   cases x with
   | panic v => exact hr
   | _ => exact (hr : False).elim
def plainOps (ops : Array Oper) : Bool := ops.toList.all fun o => match o.op with | .defer _ => false | _ => true
theorem plainOps_at {ops : Array Oper} (h : plainOps ops = true) {i : Nat} {o : Oper} (hi : ops[i]? = some o) : ∀ c, o.op ≠ .defer c := by
 intro c hc
 have := List.all_eq_true.1 h o (by rw [← Array.getElem?_toList] at hi; exact List.mem_of_getElem? hi)
 rw [hc] at this
 cases this
theorem any_round {ops : Array Oper} {Q : Exit → Act → World → Prop} {l n : Nat} (hp : plainOps ops = true) (hQ : ¬ LetsOut Q) : ∀ (fuel : Nat) (listed : Array Bool) (a : Act) (w : World), wpAny Tryz.prog .any ops Q fuel listed a w → wpAnyIn (Fence.wide.inRound l) n Tryz.prog .any ops Q fuel listed a w
 | 0, _, _, _, h => h
 | fuel + 1, listed, a, w, h => by
   refine ⟨h.1, fun i hi => ?_⟩
   have h2 := h.2 i hi
   unfold wpOp at h2
   unfold wpOpIn
   cases ho : ops[i]? with
   | none =>
     rw [ho] at h2
     exact any_round hp hQ fuel _ _ _ h2
   | some o =>
     rw [ho] at h2
     simp only at h2 ⊢
     by_cases hw : Region.wanted o (yielded ops a.tmps) = true
     · rw [if_pos hw] at h2 ⊢
       rcases h2 with h2 | h2
       · refine ⟨fun _ _ => trivial, ?_⟩
         rw [Oper.semAt_eq _ _ _ (plainOps_at hp ho)]
         exact upon_round (fun a w h => any_round hp hQ fuel _ a w h) _ h2
       · exact absurd h2.2 hQ
     · rw [if_neg hw] at h2 ⊢
       exact ⟨fun _ _ => trivial, any_round hp hQ fuel _ _ _ h2⟩
theorem Reg.startR {id : Nat} {ops : Array Oper} {Q : Exit → Act → World → Prop} {a : Act} {B l n : Nat} {w : World} (hm : Tryz.prog.follows .mixedOrders = true) (hp : plainOps ops = true) (hQ : ¬ LetsOut Q) (h : Reg.G Tryz.prog ops Q a B ops.size [] [] w.drew) :
   (Code.region id ops true).wpIn (Fence.wide.inRound l) n Tryz.prog Q a w :=
 wpIn_region_any hm (any_round hp hQ _ _ _ _ (wpAny_of_held _ _ _ _ h))
def Reg.Br (P : Program) (ops : Array Oper) (Q : Exit → Act → World → Prop) (a : Act) (B fuel : Nat) (ks : List Nat) (l : List (Nat × Value)) (w : World) (i : Nat) : Prop :=
 wpOp P ops Q i (fun a' w' => Below B w w' ∧ wpAnyH P .any ops Q (fun w' => Below B w w') fuel ((Reg.lst ops.size ks).setIfInBounds i true) a' w') (Reg.ov a l) w
section
variable {P : Program} {ops : Array Oper} {Q : Exit → Act → World → Prop} {a : Act} {B fuel : Nat} {ks : List Nat} {l : List (Nat × Value)} {w : World}
theorem Reg.brV (i : Nat) (o : Oper) (d : Nat) (hi : ops[i]? = some o) (hd : o.dst = some d) (hb : Reg.inB a l = true) (hw : Reg.wantB ops a l o = true)
   (h : ∃ v w' B', (execOp (Reg.ev a l) o).run P w = .ok (.value v) w' ∧ B ≤ B' ∧ Below B w w' ∧ Reg.G P ops Q a B' fuel (i :: ks) ((d, v) :: l) w') : Reg.Br P ops Q a B fuel ks l w i := by
 obtain ⟨v, w', B', hrun, hBB, hbl, hg⟩ := h
 unfold Reg.Br wpOp
 simp only [hi]
 rw [if_pos (Reg.wanted_of ops a l o hb hw)]
 refine .inl ?_
 unfold Oper.wp
 rw [Reg.ov_eval a l hb, hrun]
 simp only [Oper.upon, hd]
 exact ⟨hbl, Reg.mono_held (fun x hx => hbl.trans (hx.mono hBB)) _ _ _ _ hg⟩
theorem Reg.brN (i : Nat) (o : Oper) (hi : ops[i]? = some o) (hd : o.dst = none) (hb : Reg.inB a l = true) (hw : Reg.wantB ops a l o = true)
   (h : ∃ w' B', (execOp (Reg.ev a l) o).run P w = .ok .skip w' ∧ B ≤ B' ∧ Below B w w' ∧ Reg.G P ops Q a B' fuel (i :: ks) l w') : Reg.Br P ops Q a B fuel ks l w i := by
 obtain ⟨w', B', hrun, hBB, hbl, hg⟩ := h
 unfold Reg.Br wpOp
 simp only [hi]
 rw [if_pos (Reg.wanted_of ops a l o hb hw)]
 refine .inl ?_
 unfold Oper.wp
 rw [Reg.ov_eval a l hb, hrun]
 simp only [Oper.upon, hd]
 exact ⟨hbl, Reg.mono_held (fun x hx => hbl.trans (hx.mono hBB)) _ _ _ _ hg⟩
theorem Reg.one (i : Nat) (hr : Region.ready .any ops (Reg.lst ops.size ks) = [i]) (h : Reg.Br P ops Q a B fuel ks l w i) : Reg.G P ops Q a B (fuel + 1) ks l w :=
 wpAnyH_all hr (by simp) fun j hj => by
   obtain rfl : j = i := by simpa using hj
   exact h
theorem Reg.two (i k : Nat) (hr : Region.ready .any ops (Reg.lst ops.size ks) = [i, k]) (h : Reg.Br P ops Q a B fuel ks l w i) (h2 : Reg.Br P ops Q a B fuel ks l w k) : Reg.G P ops Q a B (fuel + 1) ks l w :=
 wpAnyH_all hr (by simp) fun j hj => by
   rcases (by simpa using hj : j = i ∨ j = k) with rfl | rfl
   · exact h
   · exact h2
end
theorem Reg.ld1 {P : Program} {w : World} {ρ : Operand → Value} {o : Oper} {ty : TypeId} {x : Operand} {a : Addr} {v : Value} (hop : o.op = .load ty x) (hx : ρ x = .pointer (some a)) (hc : w.cell? a = some v) (hagg : (isAgg ty).run P w = .ok false w) : (execOp ρ o).run P w = .ok (.value v) w := by
 obtain ⟨dst, op, type, pos, after, guard⟩ := o
 simp only at hop
 subst hop
 simp [execOp, hx, Instr.loadAt, Instr.sureAddr, loadVar, Sem.run_bind, hagg, hc, Result.andThen]
theorem Reg.st1 {P : Program} {w : World} {ρ : Operand → Value} {o : Oper} {ty : TypeId} {x y : Operand} {b off : Nat} {u v : Value} (hop : o.op = .store ty x y) (hx : ρ x = .pointer (some ⟨b, off, none⟩)) (hy : ρ y = v) (hc : w.cell? ⟨b, off, none⟩ = some u) (hf : w.frozen? ⟨b, off, none⟩ = false) (h1 : (∃ k n, v = .int k n) ∨ ∃ ao n c, v = .slice ao n c) (hsz : (sizeOf ty).run P w = .ok 1 w) : (execOp ρ o).run P w = .ok .skip (w.setCell ⟨b, off, none⟩ v) := by
 obtain ⟨dst, op, type, pos, after, guard⟩ := o
 simp only at hop
 subst hop
 have hs : (Instr.storeAt ty (.pointer (some ⟨b, off, none⟩)) v).run P w = .ok () (w.setCell ⟨b, off, none⟩ v) := by
   rcases h1 with ⟨k, n, rfl⟩ | ⟨ao, n, c, rfl⟩ <;> simp [Instr.storeAt, Instr.sureAddr, storeVar, Sem.run_bind, hsz, hc, hf, Result.andThen, go_sem]
 simp [execOp, hx, hy, hs, Result.andThen]
end Go.Proofs.YteaaijhppmkfeaaGreatDoor.U
/- A region that draws its order and whose last operation is a store: what only reads may be taken first, so long as the store waits for it. -/
namespace Go.Proofs.YteaaijhppmkfeaaGreatDoor.U
open Go.RowKit Go.Shelf
namespace Rst
def anyS (ops : Array Oper) (Q : Exit → Act → World → Prop) (s : Nat) (T : World → Prop) : Nat → Array Bool → Act → World → Prop
 | 0, listed, a, w => Region.ready .any ops listed = [] ∧ Q .normal a w
 | fuel + 1, listed, a, w =>
   (Region.ready .any ops listed = [] → Q .normal a w) ∧
   ∀ i ∈ Region.ready .any ops listed, wpOp Tryz.prog ops Q i (fun a' w' => ((listed.setIfInBounds i true).getD s true = true ∨ T w') ∧ anyS ops Q s T fuel (listed.setIfInBounds i true) a' w') a w
theorem any_of {ops : Array Oper} {Q : Exit → Act → World → Prop} {s : Nat} {T : World → Prop} : ∀ (fuel : Nat) (listed : Array Bool) (a : Act) (w : World), anyS ops Q s T fuel listed a w → wpAny Tryz.prog .any ops Q fuel listed a w
 | 0, _, _, _, h => h
 | fuel + 1, _, _, _, h => ⟨h.1, fun i hi => wpOp_mono (fun a' w' h' => any_of fuel _ a' w' h'.2) (h.2 i hi)⟩
theorem first {ops : Array Oper} {Q : Exit → Act → World → Prop} {s : Nat} {T : World → Prop} {i : Nat} {oi : Oper} {v : Value} (hi : ops[i]? = some oi) (hsel : ∀ (j : Nat) (o : Oper) cs b, ops[j]? = some o → o.op ≠ .select cs b)
   (hQ : ∀ c a w, Q (.panic c) (a.put oi.dst v) w → Q (.panic c) a w) (his : s ≠ i) (hwait : ∃ os, ops[s]? = some os ∧ ∃ e ∈ os.after, Region.binds .any e = true ∧ e.on = i) :
   ∀ (fuel : Nat) (listed : Array Bool) (a : Act) (w : World),
     (∀ j oj, ops[j]? = some oj → j ≠ i → listed.getD j true = false → (∀ e ∈ oj.after, Region.binds .any e = true → e.on ≠ i) → oi.apart ops oj = true) →
     i ∈ Region.ready .any ops listed → YieldsIf Tryz.prog ops T oi v a → T w → listed.getD s true = false →
     anyS ops Q s T fuel (listed.setIfInBounds i true) (a.put oi.dst v) w → anyS ops Q s T (fuel + 1) listed a w := by
 intro fuel
 induction fuel with
 | zero =>
   intro listed a w _ hr hy hT hs H
   refine ⟨fun h => (by rw [h] at hr; cases hr), fun j hj => ?_⟩
   by_cases hji : j = i
   · subst hji
     exact hy.wpOp hi hT ⟨.inr hT, H⟩
   · have := ready_mono hj hji
     rw [H.1] at this
     cases this
 | succ fuel ih =>
   intro listed a w hfree hr hy hT hs H
   refine ⟨fun h => (by rw [h] at hr; cases hr), fun j hj => ?_⟩
   by_cases hji : j = i
   · subst hji
     exact hy.wpOp hi hT ⟨.inr hT, H⟩
   · have h1 := H.2 j (ready_mono hj hji)
     obtain ⟨hjun, oj, hoj, hall⟩ := mem_ready.1 hj
     have hnot : ∀ e ∈ oj.after, Region.binds .any e = true → e.on ≠ i := fun e he hb heq => by
       have h2 := hall e he hb
       have h0 := (mem_ready.1 hr).1
       rw [heq] at h2
       rcases Nat.lt_or_ge i listed.size with h' | h'
       · simp [h'] at h0 h2
         rw [h0] at h2
         cases h2
       · simp [Array.getElem?_eq_none h'] at h2
     have hjs : j ≠ s := by
       rintro rfl
       obtain ⟨os, h3, e, h4, h5, h6⟩ := hwait
       rw [hoj] at h3
       cases h3
       exact hnot e h4 h5 h6
     have h2 := wpOp_putIf hoj (hfree j oj hoj hji hjun hnot) (fun cs b => hsel i oi cs b hi) (fun cs b => hsel j oj cs b hoj) hQ hy h1
     have hs2 : (listed.setIfInBounds j true).getD s true = false := by rw [getD_set_ne true hjs]; exact hs
     have hfree' : ∀ k ok, ops[k]? = some ok → k ≠ i → (listed.setIfInBounds j true).getD k true = false →
         (∀ e ∈ ok.after, Region.binds .any e = true → e.on ≠ i) → oi.apart ops ok = true := fun k ok hk hki hun hno => by
       refine hfree k ok hk hki ?_ hno
       by_cases hjk : j = k
       · subst hjk; exact hjun
       · rw [getD_set_ne true hjk] at hun; exact hun
     refine wpOp_mono (fun a' w' h3 => ?_) h2
     have hT' : T w' := by
       rcases h3.2.1 with h4 | h4
       · rw [Array.setIfInBounds_comm _ _ (Ne.symm hji), getD_set_ne true (Ne.symm his), hs2] at h4
         cases h4
       · exact h4
     refine ⟨.inr hT', ih (listed.setIfInBounds j true) a' w' hfree' (ready_mono hr (Ne.symm hji)) h3.1 hT' hs2 ?_⟩
     rw [Array.setIfInBounds_comm _ _ hji]
     exact h3.2.2
end Rst
end Go.Proofs.YteaaijhppmkfeaaGreatDoor.U
/- A region whose last operation is a store, walked in small terms within a round. -/
namespace Go.Proofs.YteaaijhppmkfeaaGreatDoor.U
open Go.RowKit Go.Shelf
namespace Rst
def G2 (ops : Array Oper) (Q : Exit → Act → World → Prop) (a : Act) (s : Nat) (T : World → Prop) (fuel : Nat) (ks : List Nat) (l : List (Nat × Value)) (w : World) : Prop :=
 anyS ops Q s T fuel (Reg.lst ops.size ks) (Reg.ov a l) w
def waits (ops : Array Oper) (s i : Nat) : Bool :=
 match ops[s]? with
 | some os => os.after.toList.any fun e => Region.binds .any e && Nat.beq e.on i
 | none => false
theorem waits_spec {ops : Array Oper} {s i : Nat} (h : waits ops s i = true) : ∃ os, ops[s]? = some os ∧ ∃ e ∈ os.after, Region.binds .any e = true ∧ e.on = i := by
 unfold waits at h
 cases ho : ops[s]? with
 | none => rw [ho] at h; cases h
 | some os =>
   rw [ho] at h
   obtain ⟨e, he, h2⟩ := List.any_eq_true.1 h
   simp only [Bool.and_eq_true] at h2
   exact ⟨os, rfl, e, by simpa using he, h2.1, Nat.eq_of_beq_eq_true h2.2⟩
section
variable {ops : Array Oper} {Q : Exit → Act → World → Prop} {a : Act} {s : Nat} {T : World → Prop} {fuel : Nat} {ks : List Nat} {l : List (Nat × Value)} {w : World}
theorem startR {id lp n : Nat} (s : Nat) (T : World → Prop) (hm : Tryz.prog.follows .mixedOrders = true) (hp : plainOps ops = true) (hQ : ¬ LetsOut Q) (h : G2 ops Q a s T ops.size [] [] w.drew) :
   (Code.region id ops true).wpIn (Fence.wide.inRound lp) n Tryz.prog Q a w :=
 wpIn_region_any hm (any_round hp hQ _ _ _ _ (any_of _ _ _ _ h))
theorem take (hQ : ∀ c (a : Act) (d : Nat) v w, Q (.panic c) (a.put (some d) v) w → Q (.panic c) a w) (i : Nat) (o : Oper) (d : Nat) (v : Value) (hi : ops[i]? = some o)
   (hc : (Region.noSelect ops && (Region.free .any ops (Reg.lst ops.size ks) i && ((Region.ready .any ops (Reg.lst ops.size ks)).contains i && (!(Nat.beq s i) && (waits ops s i && !((Reg.lst ops.size ks).getD s true)))))) = true) (hd : o.dst = some d) (hb : Reg.inB a l = true) (hw : Reg.wantB ops a l o = true)
   (hT : T w) (hy : ∀ w', T w' → (execOp (Reg.ev a l) o).run Tryz.prog w' = .ok (.value v) w') (h : G2 ops Q a s T fuel (i :: ks) ((d, v) :: l) w) : G2 ops Q a s T (fuel + 1) ks l w := by
 simp only [Bool.and_eq_true, Bool.not_eq_true'] at hc
 obtain ⟨hs, hf, hr, h1, h2, h3⟩ := hc
 refine first (v := v) hi (Region.noSelect_spec hs) (fun c a' w' hh => hQ c a' d v w' (by rw [hd] at hh; exact hh)) (fun e => by rw [e, Nat.beq_refl] at h1; cases h1) (waits_spec h2) fuel _ _ w (Region.free_spec hi hf) (by simpa using hr) (.inl ⟨Reg.wanted_of ops a l o hb hw, fun w' hw' => ?_⟩) hT h3 ?_
 · rw [Reg.ov_eval a l hb]; exact hy w' hw'
 · rw [hd]; exact h
theorem only (i : Nat) (o : Oper) (d : Nat) (hi : ops[i]? = some o) (hr : Region.ready .any ops (Reg.lst ops.size ks) = [i]) (hd : o.dst = some d) (hb : Reg.inB a l = true) (hw : Reg.wantB ops a l o = true)
   (h : ∃ v w', (execOp (Reg.ev a l) o).run Tryz.prog w = .ok (.value v) w' ∧ T w' ∧ G2 ops Q a s T fuel (i :: ks) ((d, v) :: l) w') : G2 ops Q a s T (fuel + 1) ks l w := by
 obtain ⟨v, w', hrun, hT, hg⟩ := h
 refine ⟨fun h0 => (by rw [hr] at h0; cases h0), ?_⟩
 rw [hr]
 intro j hj
 obtain rfl : j = i := by simpa using hj
 unfold wpOp
 simp only [hi]
 rw [if_pos (Reg.wanted_of ops a l o hb hw)]
 refine .inl ?_
 unfold Oper.wp
 rw [Reg.ov_eval a l hb, hrun]
 simp only [Oper.upon, hd]
 exact ⟨.inr hT, hg⟩
theorem last (o : Oper) (hi : ops[s]? = some o) (hr : Region.ready .any ops (Reg.lst ops.size ks) = [s]) (hd : o.dst = none) (hb : Reg.inB a l = true) (hw : Reg.wantB ops a l o = true)
   (h : ∃ w', (execOp (Reg.ev a l) o).run Tryz.prog w = .ok .skip w' ∧ G2 ops Q a s T fuel (s :: ks) l w') : G2 ops Q a s T (fuel + 1) ks l w := by
 obtain ⟨w', hrun, hg⟩ := h
 refine ⟨fun h0 => (by rw [hr] at h0; cases h0), ?_⟩
 rw [hr]
 intro j hj
 obtain rfl : j = s := by simpa using hj
 unfold wpOp
 simp only [hi]
 rw [if_pos (Reg.wanted_of ops a l o hb hw)]
 refine .inl ?_
 unfold Oper.wp
 rw [Reg.ov_eval a l hb, hrun]
 simp only [Oper.upon, hd]
 refine ⟨.inl ?_, hg⟩
 rw [Array.getD_eq_getD_getElem?, Array.getElem?_setIfInBounds]
 simp only [if_true]
 split <;> simp
theorem done (hr : Region.ready .any ops (Reg.lst ops.size ks) = []) (h : Q .normal (Reg.ov a l) w) : G2 ops Q a s T fuel ks l w := by
 unfold G2
 cases fuel with
 | zero => exact ⟨hr, h⟩
 | succ f => exact ⟨fun _ => h, by rw [hr]; simp⟩
end
end Rst
/- What operations yield. -/
section
variable {w : World} {ρ : Operand → Value} {o : Oper}
theorem Reg.mv {P : Program} {x : Operand} {v : Value} (hop : o.op = .move x) (hx : ρ x = v) : (execOp ρ o).run P w = .ok (.value v) w := by
 obtain ⟨dst, op, type, pos, after, guard⟩ := o
 simp only at hop
 subst hop
 simp [execOp, hx]
theorem Reg.nc {P : Program} {x : Operand} {a : Addr} (hop : o.op = .nilCheck x) (hx : ρ x = .pointer (some a)) : (execOp ρ o).run P w = .ok (.value (.pointer (some a))) w := by
 obtain ⟨dst, op, type, pos, after, guard⟩ := o
 simp only at hop
 subst hop
 simp [execOp, hx, go_sem]
theorem Reg.bd {P : Program} {t : TypeId} {ps : Array (Nat × Operand)} {vs : Array (Nat × Value)} {cs : Array Value} (hop : o.op = .build t ps) (hx : ps.map (fun (i, x) => (i, ρ x)) = vs) (h : P.built t vs.toList = some cs) : (execOp ρ o).run P w = .ok (.value (.agg cs)) w := by
 obtain ⟨dst, op, type, pos, after, guard⟩ := o
 simp only at hop
 subst hop
 simp only [execOp]
 rw [hx, Sem.run_bind, run_build w t vs cs h]
 rfl
theorem Reg.bs {P : Program} {t e : TypeId} {len : Nat} {ps : Array (Nat × Operand)} {vs : Array (Nat × Value)} {cs : Array Value} (ie : TypeInfo) (z : Value) (hop : o.op = .buildSlice t len ps) (hx : ps.map (fun (i, x) => (i, ρ x)) = vs)
   (hu : P.underlying t = some (.slice e)) (hie : P.info? e = some ie) (hz : ie.zero = some z) (hsmall : ¬ len * ie.size > 2 ^ 24) (hpos : ¬ len * ie.size = 0)
   (h : Instr.fill (fun i => some (i * ie.size, ie.size)) ((Array.range (len * ie.size)).map (z.cells[· % z.cells.size]!)) vs.toList = some cs) :
   (execOp ρ o).run P w = .ok (.value (.slice (some ⟨w.heap.size, 0, none⟩) len len)) (w.alloc (.cells cs e)) := by
 obtain ⟨dst, op, type, pos, after, guard⟩ := o
 simp only at hop
 subst hop
 simp only [execOp]
 rw [hx, Sem.run_bind, run_buildSlice w t e len vs cs ie z hu hie hz hsmall hpos h]
 rfl
end
end Go.Proofs.YteaaijhppmkfeaaGreatDoor.U
/- slices.Chunk, two by two: its iterator. -/
namespace Go.Proofs.YteaaijhppmkfeaaGreatDoor.U
open Go.RowKit Go.Shelf
attribute [local go_sem] Oper.semAt_some
set_option maxRecDepth 100000 in
set_option maxHeartbeats 4000000 in
theorem chunk1_in (n : Nat) (hn : 1 ≤ n) (l Bs Bn b m N : Nat) (hN : Hid (N = m * 2)) (hm : m ≤ 1000) (J : Nat → World → Prop)
   (hbox : ∀ k W, J k W → W.cell? ⟨Bs, 0, none⟩ = some (.slice (some ⟨b, 0, none⟩) N N) ∧ W.cell? ⟨Bn, 0, none⟩ = some (.int .i64 2))
   (hgrow : ∀ k A B, J k A → Below A.heap.size A B → J k B)
   (W : World)
   (hY : ∀ k W1, J k W1 → k < m → YieldAt Fence.wide (n - 1) Tryz.prog l #[.slice (some ⟨b, k * 2, none⟩) 2 2] W1 fun e W' => e = .returned (.bool true) ∧ J (k + 1) W')
   (h0 : J 0 W) :
   CallsIn Fence.wide n Tryz.prog 266 #[.func (.yield l) #[] #[], .pointer (some ⟨Bs, 0, none⟩), .pointer (some ⟨Bn, 0, none⟩)] W fun e W' => (∃ v, e = .returned v) ∧ J m W' := by
 refine callsIn_of_wp Tryz.func266 rfl trivial ?_ rfl
 simp only [Tryz.ntmps266, List.size_toArray, List.length_cons, List.length_nil, Nat.reduceAdd, Nat.reduceSub, Array.replicate_succ, Array.replicate_zero, List.push_toArray, List.append_toArray, List.nil_append, List.cons_append]
 gi_wp2
 gi_loopw [4] (fun p wr => ∃ k q : Nat, p = .int .i64 (q : Int) ∧ Hid (q = k * 2) ∧ k ≤ m ∧ J k wr) (fun p _ => N - (intOf p).toNat)
 case atStart => exact ⟨0, 0, rfl, hide rfl, Nat.zero_le _, h0⟩
 case round =>
   obtain ⟨k, q, rfl, hq, hk, hJ⟩ := hrel
   obtain ⟨hb1, hb2⟩ := hbox _ _ hJ
   by_cases hlt : k < m
   · have hqN : q + 2 ≤ N := by have := hq.out; have := hN.out; omega
     have hN2 : N ≤ 2000 := by have := hN.out; omega
     have hmn : min (2 : Int) ((N - q : Nat) : Int) = 2 := by omega
     have hw2 : IntKind.i64.wrap ((q : Int) + 2) = ((q + 2 : Nat) : Int) := by simp [IntKind.wrap, IntKind.bits, IntKind.signed]; omega
     have hnext : ∀ nq, ∃ fn tmps assign body, (Instr.yield l #[.slice (some ⟨b, q, none⟩) 2 2]).run Tryz.prog (wr.drewN nq) = .ok (.round l fn tmps assign body) (wr.drewN nq) ∧
         RoundIn Fence.wide (n - 1) Tryz.prog l fn tmps assign body (wr.drewN nq) (fun e W' => e = .returned (.bool true) ∧ J (k + 1) W') := by
       intro nq
       have h1 := hY k (wr.drewN nq) (hgrow _ _ _ hJ (below_drewN (Below.refl _ wr) nq)) hlt
       rw [← hq.out] at h1
       exact h1
     have hbx : ∀ W, J (k + 1) W → W.cell? ⟨Bn, 0, none⟩ = some (.int .i64 2) := fun W h => (hbox _ _ h).2
     have hq2 : Hid (q + 2 = (k + 1) * 2) := hide (by have := hq.out; omega)
     clear hY hJ hgrow h0 hbox hq
     gi_wp2
     gi_big_quiet (fail)
     obtain ⟨fn, tmps, assign, body, hy, hR⟩ := hnext nq
     clear hnext
     gi_wp2
     refine hR.mono ?_
     rintro e W3 ⟨rfl, hJ3⟩
     have hb3 := hbx _ hJ3
     clear hR hy hbx
     gi_wp2
     go_roundw
     case rel => exact ⟨k + 1, q + 2, by go_num, hq2, by omega, hJ3⟩
     case measure => simp [intOf]; omega
   · obtain rfl : k = m := by omega
     have hqN : q = N := by have := hq.out; have := hN.out; omega
     subst hqN
     clear hY hgrow h0 hbox hq hN
     gi_wp2
     go_end0
     exact ⟨⟨_, rfl⟩, hJ⟩
set_option maxHeartbeats 1000000 in
theorem chunkMake_any (ao : Option Addr) (len cap : Nat) (w : World) :
   Calls Tryz.prog 250 #[.slice ao len cap, .int .i64 2] w fun e w' => e = .returned (.func (.func 266) #[] #[.pointer (some ⟨w.heap.size, 0, none⟩), .pointer (some ⟨w.heap.size + 1, 0, none⟩)]) ∧ w' = (w.alloc (.cells #[.slice ao len cap] 44)).alloc (.cells #[.int .i64 2] 3) := by
 go_enter Tryz.func250, Tryz.ntmps250
 go_wp2
 go_ret
 exact ⟨rfl, rfl⟩
end Go.Proofs.YteaaijhppmkfeaaGreatDoor.U
/- rangesOf: the ranges of a row of ends. -/
namespace Go.Proofs.YteaaijhppmkfeaaGreatDoor.U
open Go.RowKit Go.Shelf
attribute [local go_sem] Oper.semAt_some
structure Chg (p : Nat → Prop) (A B : World) : Prop where
 os : B.os = A.os
 tape : B.tape = A.tape
 output : B.output = A.output
 size : A.heap.size ≤ B.heap.size
 block : ∀ k, k < A.heap.size → ¬ p k → B.heap[k]? = A.heap[k]?
theorem Chg.trans {p q : Nat → Prop} {A B C : World} (h : Chg p A B) (k : Chg q B C) : Chg (fun i => p i ∨ q i) A C :=
 ⟨k.os.trans h.os, k.tape.trans h.tape, k.output.trans h.output, Nat.le_trans h.size k.size, fun i hi hp => (k.block i (Nat.lt_of_lt_of_le hi h.size) (fun x => hp (.inr x))).trans (h.block i hi (fun x => hp (.inl x)))⟩
theorem Chg.mono {p q : Nat → Prop} {A B : World} (h : Chg p A B) (hpq : ∀ k, k < A.heap.size → p k → q k) : Chg q A B :=
 ⟨h.os, h.tape, h.output, h.size, fun i hi hq => h.block i hi (fun x => hq (hpq i hi x))⟩
theorem Chg.below {A B : World} (h : Below A.heap.size A B) : Chg (fun _ => False) A B := ⟨h.os, h.tape, h.output, h.size, fun k hk _ => h.block k hk⟩
theorem app_one {T e : TypeId} {z0 z1 : Value} {by_ : Nat} (hT : Tryz.prog.underlying T = some (.slice e)) (hI : (Tryz.prog.info? e).map (fun i => (i.zero, i.size, i.bytes)) = some (some (.agg #[z0, z1]), 2, by_)) (hz : (Value.agg #[z0, z1]).cells.size = 2) (hby : by_ ≤ 124)
   (ty : TypeId) {w : World} {B N : Nat} {v c0 c1 : Value} {xs : List Value} (ho : w.ownsRow B e 2 v N xs) (hB : B ≤ w.heap.size) (hN : N ≤ 10000000) (h0 : c0.oneCell' = true) (h1 : c1.oneCell' = true) :
   ∃ v' w', (Builtin.append_ #[T, T] ty #[v, .slice (some ⟨w.heap.size, 0, none⟩) 1 1]).run Tryz.prog (w.alloc (.cells #[c0, c1] e)) = .ok v' w' ∧ w'.ownsRow B e 2 v' (N + 1) (xs ++ [c0, c1]) ∧ Chg (fun k => some k = v.ownBlock) w w' ∧
     (v'.ownBlock = v.ownBlock ∨ ∃ g, v'.ownBlock = some g ∧ w.heap.size ≤ g) ∧ (∃ g cap, v' = .slice (some ⟨g, 0, none⟩) (N + 1) cap) := by
 obtain ⟨i0, hi, hz0, hz1, hz2⟩ := info_parts2 hI
 have hnew := World.alloc_heap_new w (.cells #[c0, c1] e)
 have hc := cells_two hnew
 obtain ⟨v', w', hr, h2, h3, h4, h5⟩ := run_append_own_at (P := Tryz.prog) (w.alloc (.cells #[c0, c1] e)) B T ty e i0 _ 2 by_ hT hi hz0 hz1 hz2 hz (by decide) v N xs (ho.alloc _) ⟨w.heap.size, 0, none⟩ 1 1 [c0, c1] rfl
   (fun j u hu => by
     match j, hu with
     | 0, hu => simp at hu; subst hu; exact hc.1
     | 1, hu => simp at hu; subst hu; exact hc.2
     | j + 2, hu => simp at hu) (by simp [h0, h1]) (by unfold maxLen; omega) (by
       have : (N + 1) * by_ ≤ (N + 1) * 124 := Nat.mul_le_mul_left _ hby
       omega) (by simp; omega)
 refine ⟨v', w', hr, h2, ⟨h3.os, h3.tape, h3.output, Nat.le_trans (by simp) h3.size, fun k hk hp => (h3.block k (by simp; omega) hp).trans (Below.heap_alloc _ _ _ hk)⟩, ?_, ?_⟩
 · rcases h5 with h5 | h5
   · exact .inl h5
   · exact .inr ⟨_, h5, by simp⟩
 · obtain ⟨_, ⟨_, h⟩ | ⟨g, cap, _, h, _⟩⟩ := h2
   · cases h
   · exact ⟨g, cap, h⟩
theorem cell_at {w : World} {b j : Nat} {cs : Array Value} {t : TypeId} {fz : Nat × Nat} {v : Value} (h : w.heap[b]? = some (.cells cs t fz)) (hj : cs[j]? = some v) : w.cell? ⟨b, j, none⟩ = some v := by simp [World.cell?, h, hj]
theorem frozen_at {w : World} {b j : Nat} {cs : Array Value} {t : TypeId} (h : w.heap[b]? = some (.cells cs t (0, 0))) : w.frozen? ⟨b, j, none⟩ = false := by simp [World.frozen?, h]
theorem set_at {w : World} {b j : Nat} {cs : Array Value} {t : TypeId} {fz : Nat × Nat} (v : Value) (h : w.heap[b]? = some (.cells cs t fz)) : (w.setCell ⟨b, j, none⟩ v).heap[b]? = some (.cells (cs.setIfInBounds j v) t fz) := by
 rw [Sort.setCell_eq]
 unfold Sort.mapBlock
 rw [Array.getElem?_modify, if_pos rfl, h]
 rfl
theorem chg_set (w : World) (b j : Nat) (v : Value) : Chg (fun k => k = b) w (w.setCell ⟨b, j, none⟩ v) := by
 rw [Sort.setCell_eq]
 unfold Sort.mapBlock
 refine ⟨rfl, rfl, rfl, by simp, fun k _ hk => ?_⟩
 show (w.heap.modify b _)[k]? = _
 rw [Array.getElem?_modify, if_neg (fun e => hk e.symm)]
theorem cR_arr (zs : List S.R) (k : Nat) (h : k < zs.length) : (cR zs).toArray[k * 2]? = some (.int .i32 zs[k].1) ∧ (cR zs).toArray[k * 2 + 1]? = some (.int .i32 zs[k].2) := by
 have := cR_at zs k h
 simpa using this
theorem elemSize44 (w : World) : (sizeOf (Tryz.prog.elem 44)).run Tryz.prog w = .ok 1 w := by kernel_rfl
theorem OwnR.low {w : World} {B B' : Nat} {e : TypeId} {v : Value} {xs : List S.R} (h : OwnR w B e v xs) (hb : B' ≤ B) : OwnR w B' e v xs := by
 obtain ⟨h1, h2 | ⟨g, cap, cur, rfl, h3, h4⟩⟩ := h
 · exact ⟨h1, .inl h2⟩
 · exact ⟨h1, .inr ⟨g, cap, cur, rfl, Nat.le_trans hb h3, h4⟩⟩
structure RO (w : World) (e0 l : Nat) (r : Loop) (b N : Nat) (zs : List S.R) (k : Nat) (A : World) : Prop where
 own : ∃ v, Boxed A w.heap.size 23 v ∧ OwnR A e0 69 v (zs.take k)
 rec_ : A.heap[l + 1]? = some (.loop r)
 def_ : A.heap[l]? = some (.deferred (some []))
 bs : A.heap[w.heap.size + 1]? = some (.cells #[.slice (some ⟨b, 0, none⟩) N N] 44 (0, 0))
 bn : A.heap[w.heap.size + 2]? = some (.cells #[.int .i64 2] 3 (0, 0))
 row : A.heap[b]? = some (.cells (cR zs).toArray 21 (0, 0))
 below : Below w.heap.size w A
 le : e0 ≤ A.heap.size
set_option maxRecDepth 100000 in
set_option maxHeartbeats 4000000 in
theorem rangesOf_in (b N : Nat) (zs : List S.R) (hN : Hid (N = zs.length * 2)) (hm : zs.length ≤ 1000) (w : World) (hrow : w.heap[b]? = some (.cells (cR zs).toArray 21 (0, 0))) :
   CallsIn Fence.wide 5 Tryz.prog 231 #[.slice (some ⟨b, 0, none⟩) N N] w fun e W' => ∃ u, e = .returned u ∧ OwnR W' w.heap.size 69 u zs ∧ Below w.heap.size w W' := by
 refine callsIn_of_wp_marks Tryz.func231 rfl trivial ?_ rfl
 simp only [Tryz.ntmps231, List.size_toArray, List.length_cons, List.length_nil, Nat.reduceAdd, Nat.reduceSub, Array.replicate_succ, Array.replicate_zero, List.push_toArray, List.append_toArray, List.nil_append, List.cons_append]
 gi_wp2_with (refine ⟨trivial, ?_⟩; gi_at_call 250; refine (callsIn_wide.2 (chunkMake_any _ _ _ _)).mono ?_; rintro e w2 ⟨rfl, rfl⟩)
 have a1 := al1 w (.cells #[.slice none 0 0] 23)
 have n1 := World.alloc_heap_new w (.cells #[.slice none 0 0] 23)
 have s1 := World.size_alloc w (.cells #[.slice none 0 0] 23)
 generalize w.alloc (.cells #[.slice none 0 0] 23) = w1 at *
 have a2 := al1 w1 (.cells #[.slice (some ⟨b, 0, none⟩) N N] 44)
 have n2 := World.alloc_heap_new w1 (.cells #[.slice (some ⟨b, 0, none⟩) N N] 44)
 have s2 := World.size_alloc w1 (.cells #[.slice (some ⟨b, 0, none⟩) N N] 44)
 generalize w1.alloc (.cells #[.slice (some ⟨b, 0, none⟩) N N] 44) = w2 at *
 have a3 := al1 w2 (.cells #[.int .i64 2] 3)
 have n3 := World.alloc_heap_new w2 (.cells #[.int .i64 2] 3)
 have s3 := World.size_alloc w2 (.cells #[.int .i64 2] 3)
 generalize w2.alloc (.cells #[.int .i64 2] 3) = w3 at *
 have e1 : w1.heap.size = w.heap.size + 1 := by omega
 have e2 : w2.heap.size = w.heap.size + 2 := by omega
 have e3 : w3.heap.size = w.heap.size + 3 := by omega
 rw [e1] at n2
 rw [e2] at n3
 have hblt : b < w.heap.size := (Array.getElem?_eq_some_iff.1 hrow).1
 have E3 := hide e3
 have z1 : w1.heap.size < w2.heap.size := by omega
 have z0 : w.heap.size < w1.heap.size := by omega
 have z2 : w2.heap.size < w3.heap.size := by omega
 have l1 : w.heap.size + 1 < w2.heap.size := by omega
 clear e1 e2 e3 s1 s2 s3
 refine enter_law2 (gf := 266) (lb := #[.pointer (some ⟨w.heap.size + 1, 0, none⟩), .pointer (some ⟨w.heap.size + 1 + 1, 0, none⟩)]) rfl (enters_of Tryz.func266 (by kernel_rfl) rfl) ?_
 intro r We hr hrec hdef hszE hbE
 have b2 := nx a3 hbE
 have b1 := nx a2 b2
 have b0 := nx a1 b1
 refine (chunk1_in 4 (by omega) (w3.heap.size + 1) (w.heap.size + 1) (w.heap.size + 1 + 1) b zs.length N hN hm (RO w We.heap.size w3.heap.size r b N zs) ?box ?grow We ?round ?start).mono ?_
 case box =>
   rintro k A h
   exact ⟨cell_at h.bs rfl, cell_at h.bn rfl⟩
 case grow =>
   rintro k A B ⟨⟨v, h1, h1'⟩, h2, h3, h4, h5, h6, h7, h8⟩ hb
   have hk : ∀ (i : Nat) (o : Obj), A.heap[i]? = some o → B.heap[i]? = some o := fun i o hi => (hb.block i (Array.getElem?_eq_some_iff.1 hi).1).trans hi
   exact ⟨⟨v, hk _ _ h1, OwnR.later h1' hb⟩, hk _ _ h2, hk _ _ h3, hk _ _ h4, hk _ _ h5, hk _ _ h6, nx h7 hb, Nat.le_trans h8 hb.size⟩
 case start =>
   exact ⟨⟨_, (b1.block _ z0).trans n1, World.ownsRow_nil _ _ _ _⟩, hrec.out, hdef.out, (b2.block _ l1).trans n2, (hbE.block _ (by have := E3.out; omega)).trans n3, (b0.block _ hblt).trans hrow, b0, Nat.le_refl _⟩
 case round =>
   clear hrec hdef b0 b1 b2 a1 a2 a3 n1 n2 n3 z0 z1 z2 l1 hbE hrow
   rintro k A ⟨⟨v, bP, rP⟩, j5, j6, qs, qn, hrow, hB, hle⟩ hlt
   have hl0 : w.heap.size + 3 ≤ w3.heap.size := by have := E3.out; omega
   have hE : w3.heap.size + 2 ≤ We.heap.size := by omega
   clear E3 hszE
   generalize w3.heap.size = l at *
   obtain ⟨x1, hx1⟩ : ∃ x, zs[k].1 = x := ⟨_, rfl⟩
   obtain ⟨x2, hx2⟩ : ∃ x, zs[k].2 = x := ⟨_, rfl⟩
   have hz := cR_arr zs k hlt
   rw [hx1, hx2] at hz
   have HT : Hid (cR (zs.take (k + 1)) = cR (zs.take k) ++ [.int .i32 x1, .int .i32 x2]) := hide (by
     rw [List.take_succ_eq_append_getElem hlt, cR_append, ← hx1, ← hx2]
     rfl)
   have hlen : (zs.take k).length = k := by rw [List.length_take]; omega
   have hlen2 : (zs.take (k + 1)).length = k + 1 := by rw [List.length_take]; omega
   refine yield_law2 hr j5 rfl ?_
   gi_wp2
   intro rbk
   have hl1 : l + 1 < A.heap.size := (Array.getElem?_eq_some_iff.1 j5).1
   have hne : ∀ k, k ≠ l + 1 → (A.putObj (l + 1) (.loop rbk)).heap[k]? = A.heap[k]? := fun k hk => World.putObj_heap_other hk
   have k5 : (A.putObj (l + 1) (.loop rbk)).heap[l + 1]? = some (.loop rbk) := World.putObj_heap_same hl1
   have k6 := (hne l (by omega)).trans j6
   have ks := (hne (w.heap.size + 1) (by omega)).trans qs
   have kn := (hne (w.heap.size + 2) (by omega)).trans qn
   have kr := (hne b (by omega)).trans hrow
   have kP : (A.putObj (l + 1) (.loop rbk)).heap[w.heap.size]? = some (.cells #[v] 23 (0, 0)) := (hne w.heap.size (by omega)).trans bP
   have kO : OwnR (A.putObj (l + 1) (.loop rbk)) We.heap.size 69 v (zs.take k) := ownsRow_putObj rP _ j5 rfl
   have kB : Below w.heap.size w (A.putObj (l + 1) (.loop rbk)) := hB.trans (belowK_b (w := w) (Nat.le_refl _) _ (l + 1) _ _ (by omega) j5 rfl rfl)
   have kE : We.heap.size ≤ (A.putObj (l + 1) (.loop rbk)).heap.size := by simp; exact hle
   clear j5 j6 qs qn hrow bP rP hB hle hl1 hne
   generalize A.putObj (l + 1) (.loop rbk) = A1 at *
   have hblk := kO.block
   gi_wp2
   obtain ⟨v', w', hrun, ho', hch, _, g, cp, hv'⟩ := app_one (T := 23) (e := 69) (z0 := .int .i32 0) (z1 := .int .i32 0) (by_ := 8) (by kernel_rfl) (by kernel_rfl) (by kernel_rfl) (by decide) 23 (w := A1.drew) (c0 := .int .i32 x1) (c1 := .int .i32 x2) kO kE (by rw [hlen]; omega) rfl rfl
   obtain ⟨i0, hi, hz0, hz1, _⟩ := info_parts2 info34
   let T : World → Prop := fun w' => ∀ k, k < A1.heap.size → some k ≠ v.ownBlock → w'.heap[k]? = A1.heap[k]?
   have hlow : ∀ k, k < We.heap.size → some k ≠ v.ownBlock := fun k hk e => by have := hblk k e.symm; omega
   have tP : ∀ w', T w' → w'.heap[w.heap.size]? = some (.cells #[v] 23 (0, 0)) := fun w' hw => (hw _ (by omega) (hlow _ (by omega))).trans kP
   have tR : ∀ w', T w' → w'.heap[b]? = some (.cells (cR zs).toArray 21 (0, 0)) := fun w' hw => (hw _ (by omega) (hlow _ (by omega))).trans kr
   have hT0 : T A1.drew := fun _ _ _ => rfl
   refine Rst.startR 10 T (by kernel_rfl) (by kernel_rfl) (by rintro ⟨_, _, h⟩; exact h) ?_
   refine Rst.take (fun _ _ _ _ _ h => h) 0 _ 8 v rfl (by kernel_rfl) rfl (by kernel_rfl) rfl hT0 (fun w' hw => Reg.ld1 rfl rfl (cell_at (tP w' hw) rfl) (Tryz.isAgg23 _)) ?_
   refine Rst.take (fun _ _ _ _ _ h => h) 1 _ 9 (.slice (some ⟨b, k * 2, none⟩) 2 2) rfl (by kernel_rfl) rfl (by kernel_rfl) rfl hT0 (fun w' hw => Reg.mv rfl rfl) ?_
   refine Rst.take (fun _ _ _ _ _ h => h) 2 _ 10 (.pointer (some ⟨b, k * 2 + 0 * 1, none⟩)) rfl (by kernel_rfl) rfl (by kernel_rfl) rfl hT0 (fun w' hw => Reg.ix (k := 0) rfl rfl rfl (by decide) Tryz.underlying44 (elemSize44 w')) ?_
   refine Rst.take (fun _ _ _ _ _ h => h) 3 _ 11 (.int .i32 x1) rfl (by kernel_rfl) rfl (by kernel_rfl) rfl hT0 (fun w' hw => Reg.ld1 rfl rfl (cell_at (tR w' hw) hz.1) (Tryz.isAgg21 _)) ?_
   refine Rst.take (fun _ _ _ _ _ h => h) 4 _ 12 (.slice (some ⟨b, k * 2, none⟩) 2 2) rfl (by kernel_rfl) rfl (by kernel_rfl) rfl hT0 (fun w' hw => Reg.mv rfl rfl) ?_
   refine Rst.take (fun _ _ _ _ _ h => h) 5 _ 13 (.pointer (some ⟨b, k * 2 + 1 * 1, none⟩)) rfl (by kernel_rfl) rfl (by kernel_rfl) rfl hT0 (fun w' hw => Reg.ix (k := 1) rfl rfl rfl (by decide) Tryz.underlying44 (elemSize44 w')) ?_
   refine Rst.take (fun _ _ _ _ _ h => h) 6 _ 14 (.int .i32 x2) rfl (by kernel_rfl) rfl (by kernel_rfl) rfl hT0 (fun w' hw => Reg.ld1 rfl rfl (cell_at (tR w' hw) hz.2) (Tryz.isAgg21 _)) ?_
   refine Rst.take (fun _ _ _ _ _ h => h) 7 _ 15 (.agg #[.int .i32 x1, .int .i32 x2]) rfl (by kernel_rfl) rfl (by kernel_rfl) rfl hT0 (fun w' hw => Reg.bd rfl (vs := #[(0, .int .i32 x1), (1, .int .i32 x2)]) (by simp only [List.map_toArray, List.map_cons, List.map_nil]; rfl) (by kernel_rfl)) ?_
   refine Rst.only 8 _ 16 rfl (by kernel_rfl) rfl (by kernel_rfl) rfl ⟨_, _, Reg.bs (vs := #[(0, .agg #[.int .i32 x1, .int .i32 x2])]) (cs := #[.int .i32 x1, .int .i32 x2]) i0 _ rfl (by simp [Reg.ev, Reg.look]) (by kernel_rfl) hi hz0 (by rw [hz1]; decide) (by rw [hz1]; decide) (by rw [hz1]; kernel_rfl), fun k hk _ => Below.heap_alloc _ _ _ hk, ?_⟩
   refine Rst.only 9 _ 17 rfl (by kernel_rfl) rfl (by kernel_rfl) rfl ⟨v', w', Reg.app rfl rfl rfl hrun, fun k hk hn => hch.block k hk hn, ?_⟩
   have hT1 : T w' := fun k hk hn => hch.block k hk hn
   refine Rst.last _ rfl (by kernel_rfl) rfl (by kernel_rfl) rfl ⟨w'.setCell ⟨w.heap.size, 0, none⟩ v', Reg.st1 rfl rfl rfl (cell_at (tP w' hT1) rfl) (frozen_at (tP w' hT1)) (.inr ⟨_, _, _, hv'⟩) (Tryz.sizeOf23 _), ?_⟩
   refine Rst.done (by kernel_rfl) ?_
   have hc := chg_set w' w.heap.size 0 v'
   have hs1 : A1.heap.size ≤ w'.heap.size := hch.size
   have t9 : ∀ (i : Nat) (o : Obj), A1.heap[i]? = some o → i < We.heap.size → i ≠ w.heap.size → (w'.setCell ⟨w.heap.size, 0, none⟩ v').heap[i]? = some o := fun i o h1 h2 h3 => (hc.block i (by omega) h3).trans ((hT1 i (by omega) (hlow i h2)).trans h1)
   have o9 : OwnR (w'.setCell ⟨w.heap.size, 0, none⟩ v') We.heap.size 69 v' (zs.take (k + 1)) := by
     unfold OwnR
     rw [HT.out, hlen2]
     rw [hlen] at ho'
     refine World.ownsRow.kept ho' (w' := w'.setCell ⟨w.heap.size, 0, none⟩ v') (row := some w.heap.size) ⟨hc.os, hc.tape, hc.output, hc.size, fun k hk hn => hc.block k hk (fun e => hn (by rw [e]))⟩ (.inr fun e => ?_)
     rcases ho'.2 with ⟨h, _⟩ | ⟨g', cap', cur', h, hg', _⟩
     · rw [h] at e; cases e
     · rw [h] at e; simp [Value.ownBlock] at e; omega
   have b9 : Below w.heap.size w (w'.setCell ⟨w.heap.size, 0, none⟩ v') := ⟨(hc.os.trans hch.os).trans kB.os, (hc.tape.trans hch.tape).trans kB.tape, (hc.output.trans hch.output).trans kB.output, Nat.le_trans kB.size (Nat.le_trans hs1 hc.size), fun i hi => (hc.block i (by omega) (by omega)).trans ((hT1 i (by omega) (hlow i (by omega))).trans (kB.block i hi))⟩
   have l9 := t9 (l + 1) _ k5 (by omega) (by omega)
   have p9 : (w'.setCell ⟨w.heap.size, 0, none⟩ v').heap[w.heap.size]? = some (.cells #[v'] 23 (0, 0)) := (set_at v' (tP w' hT1)).trans rfl
   have s9 : (w'.setCell ⟨w.heap.size, 0, none⟩ v').heap[w.heap.size + 1]? = _ := t9 _ _ ks (by omega) (by omega)
   have n9 := t9 _ _ kn (by omega) (by omega)
   have d9 := t9 _ _ k6 (by omega) (by omega)
   have r9 := t9 _ _ kr (by omega) (by omega)
   have z9 : We.heap.size ≤ (w'.setCell ⟨w.heap.size, 0, none⟩ v').heap.size := Nat.le_trans kE (Nat.le_trans hs1 hc.size)
   generalize w'.setCell ⟨w.heap.size, 0, none⟩ v' = A9 at *
   have hne : ∀ k, k ≠ l + 1 → (A9.putObj (l + 1) (.loop r)).heap[k]? = A9.heap[k]? := fun k hk => World.putObj_heap_other hk
   refine ⟨l9, ⟨⟨v', (hne _ (by omega)).trans p9, ownsRow_putObj o9 _ l9 rfl⟩, World.putObj_heap_same (Array.getElem?_eq_some_iff.1 l9).1, (hne _ (by omega)).trans d9, (hne _ (by omega)).trans s9, (hne _ (by omega)).trans n9, (hne _ (by omega)).trans r9, b9.trans (belowK_b (w := w) (Nat.le_refl _) _ (l + 1) _ _ (by omega) l9 rfl rfl), by simp; exact z9⟩⟩
 rintro e W' ⟨hv, h⟩
 refine ⟨hv, h.rec_, fun r' => ?_⟩
 obtain ⟨⟨v, bP, rP⟩, j5, j6, _, _, _, hB, _⟩ := h
 rw [List.take_length] at rP
 have hl0 : w.heap.size + 3 ≤ w3.heap.size := by have := E3.out; omega
 have hE : w3.heap.size + 2 ≤ We.heap.size := by omega
 clear E3 hszE hrec hdef b0 b1 b2 a1 a2 a3 n1 n2 n3 z0 z1 z2 l1 hbE hr hv
 generalize w3.heap.size = l at *
 have hne : ∀ k, k ≠ l + 1 → (W'.putObj (l + 1) (.loop r')).heap[k]? = W'.heap[k]? := fun k hk => World.putObj_heap_other hk
 have kP : Boxed (W'.putObj (l + 1) (.loop r')) w.heap.size 23 v := (hne w.heap.size (by omega)).trans bP
 have k6 := (hne l (by omega)).trans j6
 have kO : OwnR (W'.putObj (l + 1) (.loop r')) We.heap.size 69 v zs := ownsRow_putObj rP _ j5 rfl
 have kB : Below w.heap.size w (W'.putObj (l + 1) (.loop r')) := hB.trans (belowK_b (w := w) (Nat.le_refl _) _ (l + 1) _ _ (by omega) j5 rfl rfl)
 clear bP rP j5 j6 hB hne
 generalize W'.putObj (l + 1) (.loop r') = W9 at *
 have c1 := kP.cell
 gi_wp2
 refine ⟨by simp, .inl ⟨_, _, rfl, run_takeDeferred k6, ?_⟩⟩
 exact ⟨_, results_tmp rfl _ _ _, v, rfl, (show OwnR _ We.heap.size 69 v zs from ownsRow_putObj kO _ k6 rfl).low (by omega), kB.trans (belowK_b (w := w) (Nat.le_refl _) _ l _ _ (by omega) k6 rfl rfl)⟩
theorem rangesOf_any (b N : Nat) (zs : List S.R) (hN : N = zs.length * 2) (hm : zs.length ≤ 1000) (w : World) (hrow : w.heap[b]? = some (.cells (cR zs).toArray 21 (0, 0))) :
   Calls Tryz.prog 231 #[.slice (some ⟨b, 0, none⟩) N N] w fun e W' => ∃ u, e = .returned u ∧ OwnR W' w.heap.size 69 u zs ∧ Below w.heap.size w W' :=
 callsIn_wide.1 (rangesOf_in b N zs (hide hN) hm w hrow)
end Go.Proofs.YteaaijhppmkfeaaGreatDoor.U
/- The names and what they stand for: plain facts. -/
namespace Go.Proofs.YteaaijhppmkfeaaGreatDoor.U
open Go.RowKit Go.Shelf
def tl (s : List UInt8) : List S.R :=
 if (s == [65, 110, 121]) = true then [(0, 1114111)] else if (s == [68, 105, 103, 105, 116]) = true then [(48, 57), (1632, 1641)] else if (s == [85, 112, 112, 101, 114]) = true then [(65, 90), (192, 214), (216, 222)] else if (s == [76, 111, 119, 101, 114]) = true then [(97, 122), (223, 246), (248, 255)] else if (s == [76, 101, 116, 116, 101, 114]) = true then [(65, 90), (97, 122), (192, 214), (216, 246), (248, 255), (880, 1327)] else if (s == [83, 112, 97, 99, 101]) = true then [(9, 13), (32, 32), (133, 133), (160, 160), (8192, 8202), (8232, 8233), (12288, 12288)] else if (s == [77, 97, 114, 107]) = true then [(768, 879), (8205, 8205), (65024, 65039)] else if (s == [80, 117, 110, 99, 116]) = true then [(33, 47), (58, 64), (91, 96), (123, 126), (8208, 8231)] else if (s == [72, 97, 110]) = true then [(19968, 40959)] else if (s == [75, 97, 110, 97]) = true then [(12352, 12543)] else if (s == [69, 109, 111, 106, 105]) = true then [(127744, 129791)] else []
def kn (s : List UInt8) : Bool :=
 if (s == [65, 110, 121]) = true then true else if (s == [68, 105, 103, 105, 116]) = true then true else if (s == [85, 112, 112, 101, 114]) = true then true else if (s == [76, 111, 119, 101, 114]) = true then true else if (s == [76, 101, 116, 116, 101, 114]) = true then true else if (s == [83, 112, 97, 99, 101]) = true then true else if (s == [77, 97, 114, 107]) = true then true else if (s == [80, 117, 110, 99, 116]) = true then true else if (s == [72, 97, 110]) = true then true else if (s == [75, 97, 110, 97]) = true then true else if (s == [69, 109, 111, 106, 105]) = true then true else false
theorem tl_Any {s : List UInt8} (h0 : (s == [65, 110, 121]) = true) : tl s = [(0, 1114111)] ∧ kn s = true := by simp [tl, kn, h0]
theorem tl_Digit {s : List UInt8} (h0 : (s == [65, 110, 121]) = false) (h1 : (s == [68, 105, 103, 105, 116]) = true) : tl s = [(48, 57), (1632, 1641)] ∧ kn s = true := by simp [tl, kn, h0, h1]
theorem tl_Upper {s : List UInt8} (h0 : (s == [65, 110, 121]) = false) (h1 : (s == [68, 105, 103, 105, 116]) = false) (h2 : (s == [85, 112, 112, 101, 114]) = true) : tl s = [(65, 90), (192, 214), (216, 222)] ∧ kn s = true := by simp [tl, kn, h0, h1, h2]
theorem tl_Lower {s : List UInt8} (h0 : (s == [65, 110, 121]) = false) (h1 : (s == [68, 105, 103, 105, 116]) = false) (h2 : (s == [85, 112, 112, 101, 114]) = false) (h3 : (s == [76, 111, 119, 101, 114]) = true) : tl s = [(97, 122), (223, 246), (248, 255)] ∧ kn s = true := by simp [tl, kn, h0, h1, h2, h3]
theorem tl_Letter {s : List UInt8} (h0 : (s == [65, 110, 121]) = false) (h1 : (s == [68, 105, 103, 105, 116]) = false) (h2 : (s == [85, 112, 112, 101, 114]) = false) (h3 : (s == [76, 111, 119, 101, 114]) = false) (h4 : (s == [76, 101, 116, 116, 101, 114]) = true) : tl s = [(65, 90), (97, 122), (192, 214), (216, 246), (248, 255), (880, 1327)] ∧ kn s = true := by simp [tl, kn, h0, h1, h2, h3, h4]
theorem tl_Space {s : List UInt8} (h0 : (s == [65, 110, 121]) = false) (h1 : (s == [68, 105, 103, 105, 116]) = false) (h2 : (s == [85, 112, 112, 101, 114]) = false) (h3 : (s == [76, 111, 119, 101, 114]) = false) (h4 : (s == [76, 101, 116, 116, 101, 114]) = false) (h5 : (s == [83, 112, 97, 99, 101]) = true) : tl s = [(9, 13), (32, 32), (133, 133), (160, 160), (8192, 8202), (8232, 8233), (12288, 12288)] ∧ kn s = true := by simp [tl, kn, h0, h1, h2, h3, h4, h5]
theorem tl_Mark {s : List UInt8} (h0 : (s == [65, 110, 121]) = false) (h1 : (s == [68, 105, 103, 105, 116]) = false) (h2 : (s == [85, 112, 112, 101, 114]) = false) (h3 : (s == [76, 111, 119, 101, 114]) = false) (h4 : (s == [76, 101, 116, 116, 101, 114]) = false) (h5 : (s == [83, 112, 97, 99, 101]) = false) (h6 : (s == [77, 97, 114, 107]) = true) : tl s = [(768, 879), (8205, 8205), (65024, 65039)] ∧ kn s = true := by simp [tl, kn, h0, h1, h2, h3, h4, h5, h6]
theorem tl_Punct {s : List UInt8} (h0 : (s == [65, 110, 121]) = false) (h1 : (s == [68, 105, 103, 105, 116]) = false) (h2 : (s == [85, 112, 112, 101, 114]) = false) (h3 : (s == [76, 111, 119, 101, 114]) = false) (h4 : (s == [76, 101, 116, 116, 101, 114]) = false) (h5 : (s == [83, 112, 97, 99, 101]) = false) (h6 : (s == [77, 97, 114, 107]) = false) (h7 : (s == [80, 117, 110, 99, 116]) = true) : tl s = [(33, 47), (58, 64), (91, 96), (123, 126), (8208, 8231)] ∧ kn s = true := by simp [tl, kn, h0, h1, h2, h3, h4, h5, h6, h7]
theorem tl_Han {s : List UInt8} (h0 : (s == [65, 110, 121]) = false) (h1 : (s == [68, 105, 103, 105, 116]) = false) (h2 : (s == [85, 112, 112, 101, 114]) = false) (h3 : (s == [76, 111, 119, 101, 114]) = false) (h4 : (s == [76, 101, 116, 116, 101, 114]) = false) (h5 : (s == [83, 112, 97, 99, 101]) = false) (h6 : (s == [77, 97, 114, 107]) = false) (h7 : (s == [80, 117, 110, 99, 116]) = false) (h8 : (s == [72, 97, 110]) = true) : tl s = [(19968, 40959)] ∧ kn s = true := by simp [tl, kn, h0, h1, h2, h3, h4, h5, h6, h7, h8]
theorem tl_Kana {s : List UInt8} (h0 : (s == [65, 110, 121]) = false) (h1 : (s == [68, 105, 103, 105, 116]) = false) (h2 : (s == [85, 112, 112, 101, 114]) = false) (h3 : (s == [76, 111, 119, 101, 114]) = false) (h4 : (s == [76, 101, 116, 116, 101, 114]) = false) (h5 : (s == [83, 112, 97, 99, 101]) = false) (h6 : (s == [77, 97, 114, 107]) = false) (h7 : (s == [80, 117, 110, 99, 116]) = false) (h8 : (s == [72, 97, 110]) = false) (h9 : (s == [75, 97, 110, 97]) = true) : tl s = [(12352, 12543)] ∧ kn s = true := by simp [tl, kn, h0, h1, h2, h3, h4, h5, h6, h7, h8, h9]
theorem tl_Emoji {s : List UInt8} (h0 : (s == [65, 110, 121]) = false) (h1 : (s == [68, 105, 103, 105, 116]) = false) (h2 : (s == [85, 112, 112, 101, 114]) = false) (h3 : (s == [76, 111, 119, 101, 114]) = false) (h4 : (s == [76, 101, 116, 116, 101, 114]) = false) (h5 : (s == [83, 112, 97, 99, 101]) = false) (h6 : (s == [77, 97, 114, 107]) = false) (h7 : (s == [80, 117, 110, 99, 116]) = false) (h8 : (s == [72, 97, 110]) = false) (h9 : (s == [75, 97, 110, 97]) = false) (h10 : (s == [69, 109, 111, 106, 105]) = true) : tl s = [(127744, 129791)] ∧ kn s = true := by simp [tl, kn, h0, h1, h2, h3, h4, h5, h6, h7, h8, h9, h10]
theorem tl_no {s : List UInt8} (h0 : (s == [65, 110, 121]) = false) (h1 : (s == [68, 105, 103, 105, 116]) = false) (h2 : (s == [85, 112, 112, 101, 114]) = false) (h3 : (s == [76, 111, 119, 101, 114]) = false) (h4 : (s == [76, 101, 116, 116, 101, 114]) = false) (h5 : (s == [83, 112, 97, 99, 101]) = false) (h6 : (s == [77, 97, 114, 107]) = false) (h7 : (s == [80, 117, 110, 99, 116]) = false) (h8 : (s == [72, 97, 110]) = false) (h9 : (s == [75, 97, 110, 97]) = false) (h10 : (s == [69, 109, 111, 106, 105]) = false) : tl s = [] ∧ kn s = false := by simp [tl, kn, h0, h1, h2, h3, h4, h5, h6, h7, h8, h9, h10]
end Go.Proofs.YteaaijhppmkfeaaGreatDoor.U
