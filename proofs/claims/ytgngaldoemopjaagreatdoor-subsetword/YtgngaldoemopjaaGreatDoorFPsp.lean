/- Joined: JC Psp. -/
import Derived.OrdersIn
import Derived.Maps.OwnSet
import Derived.Maps.OwnIn
import Derived.Test.YtgngaldoemopjaaGreatDoorFJB
import Derived.Great.BuildSlice
import Derived.Test.YtgngaldoemopjaaGreatDoorFPla
namespace Go.Proofs.YtgngaldoemopjaaGreatDoor.U
open Go.RowKit Go.Shelf
theorem upon_round {o : Oper} {a : Act} {K K' : Act → World → Prop} {Q : Exit → Act → World → Prop} {l n : Nat} (h : ∀ a w, K a w → K' a w) (r : Result Next) (hr : o.upon Tryz.prog a K Q r) : o.uponIn (Fence.wide.inRound l) n Tryz.prog a K' Q r := by
 cases r with
 | ok x w' =>
   cases x with
   | value v => exact h _ _ hr
   | skip => exact h _ _ hr
   | defer d => exact h _ _ hr
   | enter f args =>
     refine ⟨fun hd => (by cases hd), CallsIn.inRound l (callsIn_wide.2 ?_)⟩
     refine Calls.mono hr ?_
     intro e w'' he
     cases e with
     | returned v => exact h _ _ he
     | panicked c => exact he
     | outgrown => exact he
   | row row args =>
     refine ⟨fun hd => (by cases hd), ?_⟩
     intro c cs _
     obtain ⟨v, w'', h1, h2⟩ := hr c cs
     exact ⟨v, w'', h _ _ h1, stepsIn_wide.2 h2⟩
   | _ => exact (hr : False).elim
 | halt x w' =>
   cases x with
   | panic v => exact hr
   | _ => exact (hr : False).elim
def plainOps (ops : Array Oper) : Bool := ops.toList.all fun o => match o.op with | .defer _ => false | _ => true
theorem plainOps_at {ops : Array Oper} (h : plainOps ops = true) {i : Nat} {o : Oper} (hi : ops[i]? = some o) : ∀ c, o.op ≠ .defer c := by
 intro c hc
 have := List.all_eq_true.1 h o (by rw [← Array.getElem?_toList] at hi; exact List.mem_of_getElem? hi)
 rw [hc] at this
 cases this
theorem any_round {ops : Array Oper} {Q : Exit → Act → World → Prop} {l n : Nat} (hp : plainOps ops = true) (hQ : ¬ LetsOut Q) : ∀ (fuel : Nat) (listed : Array Bool) (a : Act) (w : World), wpAny Tryz.prog .any ops Q fuel listed a w → wpAnyIn (Fence.wide.inRound l) n Tryz.prog .any ops Q fuel listed a w
 | 0, _, _, _, h => h
 | fuel + 1, listed, a, w, h => by
   refine ⟨h.1, fun i hi => ?_⟩
   have h2 := h.2 i hi
   unfold wpOp at h2
   unfold wpOpIn
   cases ho : ops[i]? with
   | none =>
     rw [ho] at h2
     exact any_round hp hQ fuel _ _ _ h2
   | some o =>
     rw [ho] at h2
     simp only at h2 ⊢
     by_cases hw : Region.wanted o (yielded ops a.tmps) = true
     · rw [if_pos hw] at h2 ⊢
       rcases h2 with h2 | h2
       · refine ⟨fun _ _ => trivial, ?_⟩
         rw [Oper.semAt_eq _ _ _ (plainOps_at hp ho)]
         exact upon_round (fun a w h => any_round hp hQ fuel _ a w h) _ h2
       · exact absurd h2.2 hQ
     · rw [if_neg hw] at h2 ⊢
       exact ⟨fun _ _ => trivial, any_round hp hQ fuel _ _ _ h2⟩
theorem Reg.startR {id : Nat} {ops : Array Oper} {Q : Exit → Act → World → Prop} {a : Act} {B l n : Nat} {w : World} (hm : Tryz.prog.follows .mixedOrders = true) (hp : plainOps ops = true) (hQ : ¬ LetsOut Q) (h : Reg.G Tryz.prog ops Q a B ops.size [] [] w.drew) :
   (Code.region id ops true).wpIn (Fence.wide.inRound l) n Tryz.prog Q a w :=
 wpIn_region_any hm (any_round hp hQ _ _ _ _ (wpAny_of_held _ _ _ _ h))
def Reg.Br (P : Program) (ops : Array Oper) (Q : Exit → Act → World → Prop) (a : Act) (B fuel : Nat) (ks : List Nat) (l : List (Nat × Value)) (w : World) (i : Nat) : Prop :=
 wpOp P ops Q i (fun a' w' => Below B w w' ∧ wpAnyH P .any ops Q (fun w' => Below B w w') fuel ((Reg.lst ops.size ks).setIfInBounds i true) a' w') (Reg.ov a l) w
section
variable {P : Program} {ops : Array Oper} {Q : Exit → Act → World → Prop} {a : Act} {B fuel : Nat} {ks : List Nat} {l : List (Nat × Value)} {w : World}
theorem Reg.brV (i : Nat) (o : Oper) (d : Nat) (hi : ops[i]? = some o) (hd : o.dst = some d) (hb : Reg.inB a l = true) (hw : Reg.wantB ops a l o = true)
   (h : ∃ v w' B', (execOp (Reg.ev a l) o).run P w = .ok (.value v) w' ∧ B ≤ B' ∧ Below B w w' ∧ Reg.G P ops Q a B' fuel (i :: ks) ((d, v) :: l) w') : Reg.Br P ops Q a B fuel ks l w i := by
 obtain ⟨v, w', B', hrun, hBB, hbl, hg⟩ := h
 unfold Reg.Br wpOp
 simp only [hi]
 rw [if_pos (Reg.wanted_of ops a l o hb hw)]
 refine .inl ?_
 unfold Oper.wp
 rw [Reg.ov_eval a l hb, hrun]
 simp only [Oper.upon, hd]
 exact ⟨hbl, Reg.mono_held (fun x hx => hbl.trans (hx.mono hBB)) _ _ _ _ hg⟩
theorem Reg.brN (i : Nat) (o : Oper) (hi : ops[i]? = some o) (hd : o.dst = none) (hb : Reg.inB a l = true) (hw : Reg.wantB ops a l o = true)
   (h : ∃ w' B', (execOp (Reg.ev a l) o).run P w = .ok .skip w' ∧ B ≤ B' ∧ Below B w w' ∧ Reg.G P ops Q a B' fuel (i :: ks) l w') : Reg.Br P ops Q a B fuel ks l w i := by
 obtain ⟨w', B', hrun, hBB, hbl, hg⟩ := h
 unfold Reg.Br wpOp
 simp only [hi]
 rw [if_pos (Reg.wanted_of ops a l o hb hw)]
 refine .inl ?_
 unfold Oper.wp
 rw [Reg.ov_eval a l hb, hrun]
 simp only [Oper.upon, hd]
 exact ⟨hbl, Reg.mono_held (fun x hx => hbl.trans (hx.mono hBB)) _ _ _ _ hg⟩
theorem Reg.one (i : Nat) (hr : Region.ready .any ops (Reg.lst ops.size ks) = [i]) (h : Reg.Br P ops Q a B fuel ks l w i) : Reg.G P ops Q a B (fuel + 1) ks l w :=
 wpAnyH_all hr (by simp) fun j hj => by
   obtain rfl : j = i := by simpa using hj
   exact h
theorem Reg.two (i k : Nat) (hr : Region.ready .any ops (Reg.lst ops.size ks) = [i, k]) (h : Reg.Br P ops Q a B fuel ks l w i) (h2 : Reg.Br P ops Q a B fuel ks l w k) : Reg.G P ops Q a B (fuel + 1) ks l w :=
 wpAnyH_all hr (by simp) fun j hj => by
   rcases (by simpa using hj : j = i ∨ j = k) with rfl | rfl
   · exact h
   · exact h2
end
theorem Reg.ld1 {P : Program} {w : World} {ρ : Operand → Value} {o : Oper} {ty : TypeId} {x : Operand} {a : Addr} {v : Value} (hop : o.op = .load ty x) (hx : ρ x = .pointer (some a)) (hc : w.cell? a = some v) (hagg : (isAgg ty).run P w = .ok false w) : (execOp ρ o).run P w = .ok (.value v) w := by
 obtain ⟨dst, op, type, pos, after, guard⟩ := o
 simp only at hop
 subst hop
 simp [execOp, hx, Instr.loadAt, Instr.sureAddr, loadVar, Sem.run_bind, hagg, hc, Result.andThen]
theorem Reg.st1 {P : Program} {w : World} {ρ : Operand → Value} {o : Oper} {ty : TypeId} {x y : Operand} {b off : Nat} {u v : Value} (hop : o.op = .store ty x y) (hx : ρ x = .pointer (some ⟨b, off, none⟩)) (hy : ρ y = v) (hc : w.cell? ⟨b, off, none⟩ = some u) (hf : w.frozen? ⟨b, off, none⟩ = false) (h1 : (∃ k n, v = .int k n) ∨ ∃ ao n c, v = .slice ao n c) (hsz : (sizeOf ty).run P w = .ok 1 w) : (execOp ρ o).run P w = .ok .skip (w.setCell ⟨b, off, none⟩ v) := by
 obtain ⟨dst, op, type, pos, after, guard⟩ := o
 simp only at hop
 subst hop
 have hs : (Instr.storeAt ty (.pointer (some ⟨b, off, none⟩)) v).run P w = .ok () (w.setCell ⟨b, off, none⟩ v) := by
   rcases h1 with ⟨k, n, rfl⟩ | ⟨ao, n, c, rfl⟩ <;> simp [Instr.storeAt, Instr.sureAddr, storeVar, Sem.run_bind, hsz, hc, hf, Result.andThen, go_sem]
 simp [execOp, hx, hy, hs, Result.andThen]
end Go.Proofs.YtgngaldoemopjaaGreatDoor.U
namespace Go.Proofs.YtgngaldoemopjaaGreatDoor.U
open Go.RowKit Go.Shelf
namespace Rst
def anyS (ops : Array Oper) (Q : Exit → Act → World → Prop) (s : Nat) (T : World → Prop) : Nat → Array Bool → Act → World → Prop
 | 0, listed, a, w => Region.ready .any ops listed = [] ∧ Q .normal a w
 | fuel + 1, listed, a, w =>
   (Region.ready .any ops listed = [] → Q .normal a w) ∧
   ∀ i ∈ Region.ready .any ops listed, wpOp Tryz.prog ops Q i (fun a' w' => ((listed.setIfInBounds i true).getD s true = true ∨ T w') ∧ anyS ops Q s T fuel (listed.setIfInBounds i true) a' w') a w
theorem any_of {ops : Array Oper} {Q : Exit → Act → World → Prop} {s : Nat} {T : World → Prop} : ∀ (fuel : Nat) (listed : Array Bool) (a : Act) (w : World), anyS ops Q s T fuel listed a w → wpAny Tryz.prog .any ops Q fuel listed a w
 | 0, _, _, _, h => h
 | fuel + 1, _, _, _, h => ⟨h.1, fun i hi => wpOp_mono (fun a' w' h' => any_of fuel _ a' w' h'.2) (h.2 i hi)⟩
theorem first {ops : Array Oper} {Q : Exit → Act → World → Prop} {s : Nat} {T : World → Prop} {i : Nat} {oi : Oper} {v : Value} (hi : ops[i]? = some oi) (hsel : ∀ (j : Nat) (o : Oper) cs b, ops[j]? = some o → o.op ≠ .select cs b)
   (hQ : ∀ c a w, Q (.panic c) (a.put oi.dst v) w → Q (.panic c) a w) (his : s ≠ i) (hwait : ∃ os, ops[s]? = some os ∧ ∃ e ∈ os.after, Region.binds .any e = true ∧ e.on = i) :
   ∀ (fuel : Nat) (listed : Array Bool) (a : Act) (w : World),
     (∀ j oj, ops[j]? = some oj → j ≠ i → listed.getD j true = false → (∀ e ∈ oj.after, Region.binds .any e = true → e.on ≠ i) → oi.apart ops oj = true) →
     i ∈ Region.ready .any ops listed → YieldsIf Tryz.prog ops T oi v a → T w → listed.getD s true = false →
     anyS ops Q s T fuel (listed.setIfInBounds i true) (a.put oi.dst v) w → anyS ops Q s T (fuel + 1) listed a w := by
 intro fuel
 induction fuel with
 | zero =>
   intro listed a w _ hr hy hT hs H
   refine ⟨fun h => (by rw [h] at hr; cases hr), fun j hj => ?_⟩
   by_cases hji : j = i
   · subst hji
     exact hy.wpOp hi hT ⟨.inr hT, H⟩
   · have := ready_mono hj hji
     rw [H.1] at this
     cases this
 | succ fuel ih =>
   intro listed a w hfree hr hy hT hs H
   refine ⟨fun h => (by rw [h] at hr; cases hr), fun j hj => ?_⟩
   by_cases hji : j = i
   · subst hji
     exact hy.wpOp hi hT ⟨.inr hT, H⟩
   · have h1 := H.2 j (ready_mono hj hji)
     obtain ⟨hjun, oj, hoj, hall⟩ := mem_ready.1 hj
     have hnot : ∀ e ∈ oj.after, Region.binds .any e = true → e.on ≠ i := fun e he hb heq => by
       have h2 := hall e he hb
       have h0 := (mem_ready.1 hr).1
       rw [heq] at h2
       rcases Nat.lt_or_ge i listed.size with h' | h'
       · simp [h'] at h0 h2
         rw [h0] at h2
         cases h2
       · simp [Array.getElem?_eq_none h'] at h2
     have hjs : j ≠ s := by
       rintro rfl
       obtain ⟨os, h3, e, h4, h5, h6⟩ := hwait
       rw [hoj] at h3
       cases h3
       exact hnot e h4 h5 h6
     have h2 := wpOp_putIf hoj (hfree j oj hoj hji hjun hnot) (fun cs b => hsel i oi cs b hi) (fun cs b => hsel j oj cs b hoj) hQ hy h1
     have hs2 : (listed.setIfInBounds j true).getD s true = false := by rw [getD_set_ne true hjs]; exact hs
     have hfree' : ∀ k ok, ops[k]? = some ok → k ≠ i → (listed.setIfInBounds j true).getD k true = false →
         (∀ e ∈ ok.after, Region.binds .any e = true → e.on ≠ i) → oi.apart ops ok = true := fun k ok hk hki hun hno => by
       refine hfree k ok hk hki ?_ hno
       by_cases hjk : j = k
       · subst hjk; exact hjun
       · rw [getD_set_ne true hjk] at hun; exact hun
     refine wpOp_mono (fun a' w' h3 => ?_) h2
     have hT' : T w' := by
       rcases h3.2.1 with h4 | h4
       · rw [Array.setIfInBounds_comm _ _ (Ne.symm hji), getD_set_ne true (Ne.symm his), hs2] at h4
         cases h4
       · exact h4
     refine ⟨.inr hT', ih (listed.setIfInBounds j true) a' w' hfree' (ready_mono hr (Ne.symm hji)) h3.1 hT' hs2 ?_⟩
     rw [Array.setIfInBounds_comm _ _ hji]
     exact h3.2.2
end Rst
end Go.Proofs.YtgngaldoemopjaaGreatDoor.U
namespace Go.Proofs.YtgngaldoemopjaaGreatDoor.U
open Go.RowKit Go.Shelf
namespace Rst
def G2 (ops : Array Oper) (Q : Exit → Act → World → Prop) (a : Act) (s : Nat) (T : World → Prop) (fuel : Nat) (ks : List Nat) (l : List (Nat × Value)) (w : World) : Prop :=
 anyS ops Q s T fuel (Reg.lst ops.size ks) (Reg.ov a l) w
def waits (ops : Array Oper) (s i : Nat) : Bool :=
 match ops[s]? with
 | some os => os.after.toList.any fun e => Region.binds .any e && Nat.beq e.on i
 | none => false
theorem waits_spec {ops : Array Oper} {s i : Nat} (h : waits ops s i = true) : ∃ os, ops[s]? = some os ∧ ∃ e ∈ os.after, Region.binds .any e = true ∧ e.on = i := by
 unfold waits at h
 cases ho : ops[s]? with
 | none => rw [ho] at h; cases h
 | some os =>
   rw [ho] at h
   obtain ⟨e, he, h2⟩ := List.any_eq_true.1 h
   simp only [Bool.and_eq_true] at h2
   exact ⟨os, rfl, e, by simpa using he, h2.1, Nat.eq_of_beq_eq_true h2.2⟩
section
variable {ops : Array Oper} {Q : Exit → Act → World → Prop} {a : Act} {s : Nat} {T : World → Prop} {fuel : Nat} {ks : List Nat} {l : List (Nat × Value)} {w : World}
theorem startR {id lp n : Nat} (s : Nat) (T : World → Prop) (hm : Tryz.prog.follows .mixedOrders = true) (hp : plainOps ops = true) (hQ : ¬ LetsOut Q) (h : G2 ops Q a s T ops.size [] [] w.drew) :
   (Code.region id ops true).wpIn (Fence.wide.inRound lp) n Tryz.prog Q a w :=
 wpIn_region_any hm (any_round hp hQ _ _ _ _ (any_of _ _ _ _ h))
theorem take (hQ : ∀ c (a : Act) (d : Nat) v w, Q (.panic c) (a.put (some d) v) w → Q (.panic c) a w) (i : Nat) (o : Oper) (d : Nat) (v : Value) (hi : ops[i]? = some o)
   (hc : (Region.noSelect ops && (Region.free .any ops (Reg.lst ops.size ks) i && ((Region.ready .any ops (Reg.lst ops.size ks)).contains i && (!(Nat.beq s i) && (waits ops s i && !((Reg.lst ops.size ks).getD s true)))))) = true) (hd : o.dst = some d) (hb : Reg.inB a l = true) (hw : Reg.wantB ops a l o = true)
   (hT : T w) (hy : ∀ w', T w' → (execOp (Reg.ev a l) o).run Tryz.prog w' = .ok (.value v) w') (h : G2 ops Q a s T fuel (i :: ks) ((d, v) :: l) w) : G2 ops Q a s T (fuel + 1) ks l w := by
 simp only [Bool.and_eq_true, Bool.not_eq_true'] at hc
 obtain ⟨hs, hf, hr, h1, h2, h3⟩ := hc
 refine first (v := v) hi (Region.noSelect_spec hs) (fun c a' w' hh => hQ c a' d v w' (by rw [hd] at hh; exact hh)) (fun e => by rw [e, Nat.beq_refl] at h1; cases h1) (waits_spec h2) fuel _ _ w (Region.free_spec hi hf) (by simpa using hr) (.inl ⟨Reg.wanted_of ops a l o hb hw, fun w' hw' => ?_⟩) hT h3 ?_
 · rw [Reg.ov_eval a l hb]; exact hy w' hw'
 · rw [hd]; exact h
theorem only (i : Nat) (o : Oper) (d : Nat) (hi : ops[i]? = some o) (hr : Region.ready .any ops (Reg.lst ops.size ks) = [i]) (hd : o.dst = some d) (hb : Reg.inB a l = true) (hw : Reg.wantB ops a l o = true)
   (h : ∃ v w', (execOp (Reg.ev a l) o).run Tryz.prog w = .ok (.value v) w' ∧ T w' ∧ G2 ops Q a s T fuel (i :: ks) ((d, v) :: l) w') : G2 ops Q a s T (fuel + 1) ks l w := by
 obtain ⟨v, w', hrun, hT, hg⟩ := h
 refine ⟨fun h0 => (by rw [hr] at h0; cases h0), ?_⟩
 rw [hr]
 intro j hj
 obtain rfl : j = i := by simpa using hj
 unfold wpOp
 simp only [hi]
 rw [if_pos (Reg.wanted_of ops a l o hb hw)]
 refine .inl ?_
 unfold Oper.wp
 rw [Reg.ov_eval a l hb, hrun]
 simp only [Oper.upon, hd]
 exact ⟨.inr hT, hg⟩
theorem last (o : Oper) (hi : ops[s]? = some o) (hr : Region.ready .any ops (Reg.lst ops.size ks) = [s]) (hd : o.dst = none) (hb : Reg.inB a l = true) (hw : Reg.wantB ops a l o = true)
   (h : ∃ w', (execOp (Reg.ev a l) o).run Tryz.prog w = .ok .skip w' ∧ G2 ops Q a s T fuel (s :: ks) l w') : G2 ops Q a s T (fuel + 1) ks l w := by
 obtain ⟨w', hrun, hg⟩ := h
 refine ⟨fun h0 => (by rw [hr] at h0; cases h0), ?_⟩
 rw [hr]
 intro j hj
 obtain rfl : j = s := by simpa using hj
 unfold wpOp
 simp only [hi]
 rw [if_pos (Reg.wanted_of ops a l o hb hw)]
 refine .inl ?_
 unfold Oper.wp
 rw [Reg.ov_eval a l hb, hrun]
 simp only [Oper.upon, hd]
 refine ⟨.inl ?_, hg⟩
 rw [Array.getD_eq_getD_getElem?, Array.getElem?_setIfInBounds]
 simp only [if_true]
 split <;> simp
theorem done (hr : Region.ready .any ops (Reg.lst ops.size ks) = []) (h : Q .normal (Reg.ov a l) w) : G2 ops Q a s T fuel ks l w := by
 unfold G2
 cases fuel with
 | zero => exact ⟨hr, h⟩
 | succ f => exact ⟨fun _ => h, by rw [hr]; simp⟩
end
end Rst
section
variable {w : World} {ρ : Operand → Value} {o : Oper}
theorem Reg.mv {P : Program} {x : Operand} {v : Value} (hop : o.op = .move x) (hx : ρ x = v) : (execOp ρ o).run P w = .ok (.value v) w := by
 obtain ⟨dst, op, type, pos, after, guard⟩ := o
 simp only at hop
 subst hop
 simp [execOp, hx]
theorem Reg.nc {P : Program} {x : Operand} {a : Addr} (hop : o.op = .nilCheck x) (hx : ρ x = .pointer (some a)) : (execOp ρ o).run P w = .ok (.value (.pointer (some a))) w := by
 obtain ⟨dst, op, type, pos, after, guard⟩ := o
 simp only at hop
 subst hop
 simp [execOp, hx, go_sem]
theorem Reg.bs {P : Program} {t e : TypeId} {len : Nat} {ps : Array (Nat × Operand)} {vs : Array (Nat × Value)} {cs : Array Value} (ie : TypeInfo) (z : Value) (hop : o.op = .buildSlice t len ps) (hx : ps.map (fun (i, x) => (i, ρ x)) = vs)
   (hu : P.underlying t = some (.slice e)) (hie : P.info? e = some ie) (hz : ie.zero = some z) (hsmall : ¬ len * ie.size > 2 ^ 24) (hpos : ¬ len * ie.size = 0)
   (h : Instr.fill (fun i => some (i * ie.size, ie.size)) ((Array.range (len * ie.size)).map (z.cells[· % z.cells.size]!)) vs.toList = some cs) :
   (execOp ρ o).run P w = .ok (.value (.slice (some ⟨w.heap.size, 0, none⟩) len len)) (w.alloc (.cells cs e)) := by
 obtain ⟨dst, op, type, pos, after, guard⟩ := o
 simp only at hop
 subst hop
 simp only [execOp]
 rw [hx, Sem.run_bind, run_buildSlice w t e len vs cs ie z hu hie hz hsmall hpos h]
 rfl
end
end Go.Proofs.YtgngaldoemopjaaGreatDoor.U
namespace Go.Proofs.YtgngaldoemopjaaGreatDoor.U
open Go.RowKit Go.Shelf
attribute [local go_sem] Oper.semAt_some
structure Chg (p : Nat → Prop) (A B : World) : Prop where
 os : B.os = A.os
 tape : B.tape = A.tape
 output : B.output = A.output
 size : A.heap.size ≤ B.heap.size
 block : ∀ k, k < A.heap.size → ¬ p k → B.heap[k]? = A.heap[k]?
theorem Chg.trans {p q : Nat → Prop} {A B C : World} (h : Chg p A B) (k : Chg q B C) : Chg (fun i => p i ∨ q i) A C :=
 ⟨k.os.trans h.os, k.tape.trans h.tape, k.output.trans h.output, Nat.le_trans h.size k.size, fun i hi hp => (k.block i (Nat.lt_of_lt_of_le hi h.size) (fun x => hp (.inr x))).trans (h.block i hi (fun x => hp (.inl x)))⟩
theorem Chg.mono {p q : Nat → Prop} {A B : World} (h : Chg p A B) (hpq : ∀ k, k < A.heap.size → p k → q k) : Chg q A B :=
 ⟨h.os, h.tape, h.output, h.size, fun i hi hq => h.block i hi (fun x => hq (hpq i hi x))⟩
theorem cell_at {w : World} {b j : Nat} {cs : Array Value} {t : TypeId} {fz : Nat × Nat} {v : Value} (h : w.heap[b]? = some (.cells cs t fz)) (hj : cs[j]? = some v) : w.cell? ⟨b, j, none⟩ = some v := by simp [World.cell?, h, hj]
theorem frozen_at {w : World} {b j : Nat} {cs : Array Value} {t : TypeId} (h : w.heap[b]? = some (.cells cs t (0, 0))) : w.frozen? ⟨b, j, none⟩ = false := by simp [World.frozen?, h]
theorem set_at {w : World} {b j : Nat} {cs : Array Value} {t : TypeId} {fz : Nat × Nat} (v : Value) (h : w.heap[b]? = some (.cells cs t fz)) : (w.setCell ⟨b, j, none⟩ v).heap[b]? = some (.cells (cs.setIfInBounds j v) t fz) := by
 rw [Sort.setCell_eq]
 unfold Sort.mapBlock
 rw [Array.getElem?_modify, if_pos rfl, h]
 rfl
theorem OwnR.low {w : World} {B B' : Nat} {e : TypeId} {v : Value} {xs : List S.R} (h : OwnR w B e v xs) (hb : B' ≤ B) : OwnR w B' e v xs := by
 obtain ⟨h1, h2 | ⟨g, cap, cur, rfl, h3, h4⟩⟩ := h
 · exact ⟨h1, .inl h2⟩
 · exact ⟨h1, .inr ⟨g, cap, cur, rfl, Nat.le_trans hb h3, h4⟩⟩
end Go.Proofs.YtgngaldoemopjaaGreatDoor.U
namespace Go.Proofs.YtgngaldoemopjaaGreatDoor.U
open Go.RowKit Go.Shelf
def tl (s : List UInt8) : List S.R :=
 if (s == [65, 110, 121]) = true then [(0, 1114111)] else if (s == [68, 105, 103, 105, 116]) = true then [(48, 57), (1632, 1641)] else if (s == [85, 112, 112, 101, 114]) = true then [(65, 90), (192, 214), (216, 222)] else if (s == [76, 111, 119, 101, 114]) = true then [(97, 122), (223, 246), (248, 255)] else if (s == [76, 101, 116, 116, 101, 114]) = true then [(65, 90), (97, 122), (192, 214), (216, 246), (248, 255), (880, 1327)] else if (s == [83, 112, 97, 99, 101]) = true then [(9, 13), (32, 32), (133, 133), (160, 160), (8192, 8202), (8232, 8233), (12288, 12288)] else if (s == [77, 97, 114, 107]) = true then [(768, 879), (8205, 8205), (65024, 65039)] else if (s == [80, 117, 110, 99, 116]) = true then [(33, 47), (58, 64), (91, 96), (123, 126), (8208, 8231)] else if (s == [72, 97, 110]) = true then [(19968, 40959)] else if (s == [75, 97, 110, 97]) = true then [(12352, 12543)] else if (s == [69, 109, 111, 106, 105]) = true then [(127744, 129791)] else []
def kn (s : List UInt8) : Bool :=
 if (s == [65, 110, 121]) = true then true else if (s == [68, 105, 103, 105, 116]) = true then true else if (s == [85, 112, 112, 101, 114]) = true then true else if (s == [76, 111, 119, 101, 114]) = true then true else if (s == [76, 101, 116, 116, 101, 114]) = true then true else if (s == [83, 112, 97, 99, 101]) = true then true else if (s == [77, 97, 114, 107]) = true then true else if (s == [80, 117, 110, 99, 116]) = true then true else if (s == [72, 97, 110]) = true then true else if (s == [75, 97, 110, 97]) = true then true else if (s == [69, 109, 111, 106, 105]) = true then true else false
end Go.Proofs.YtgngaldoemopjaaGreatDoor.U
namespace Go.Proofs.YtgngaldoemopjaaGreatDoor
namespace E
abbrev Tok := X.Tk × Nat
abbrev Res := Except (Nat × Nat) (T × Nat)
abbrev Rs := List U.S.R
def tzz : Tok := (⟨0, [], 0⟩, 0)
def tk (l : List Tok) (i : Nat) : Tok := l.getD i tzz
def isS (t : Tok) (c : List UInt8) : Bool := decide (t.1.kind = 6) && t.1.text == c
def rpt (t : Tok) : Nat := if isS t [42] = true then 6 else if isS t [43] = true then 7 else if isS t [63] = true then 8 else 0
def beg (t : Tok) : Bool := decide (t.1.kind = 1) || (decide (t.1.kind = 4) || (decide (t.1.kind = 5) || (isS t [46] || (isS t [40] || isS t [91]))))
noncomputable def nL (xs : Rs) : Rs := if (xs.all U.S.good) = true ∧ (U.S.set xs).length ≤ 200 then U.S.set xs else []
noncomputable def nE (xs : Rs) : Nat := if (xs.all U.S.good) = true ∧ (U.S.set xs).length ≤ 200 then 0 else 30
def item (l : List Tok) (i : Nat) : Except (Nat × Nat) (Rs × Nat) :=
 if (tk l i).1.kind = 4 then
   if isS (tk l (i + 1)) [45] = true then
     if (tk l (i + 2)).1.kind = 4 then
       if (tk l i).1.r ≤ (tk l (i + 2)).1.r then .ok ([((tk l i).1.r, (tk l (i + 2)).1.r)], i + 3) else .error (30, i)
     else .error (70, i + 2)
   else .ok ([((tk l i).1.r, (tk l i).1.r)], i + 1)
 else if (tk l i).1.kind = 5 then
   if U.kn (tk l i).1.text = true then .ok (U.tl (tk l i).1.text, i + 1) else .error (50, i)
 else .error (70, i)
def items : Nat → List Tok → Nat → Rs → Except (Nat × Nat) (Rs × Nat)
 | 0, _, i, _ => .error (70, i)
 | n + 1, l, i, acc => if isS (tk l i) [93] = true then .ok (acc, i) else match item l i with
   | .error e => .error e
   | .ok (s, j) => items n l j (acc ++ s)
noncomputable def finS (nt : Bool) (acc : Rs) : Rs := if nE acc = 0 ∧ nt = true then nL (U.S.not (nL acc)) else nL acc
noncomputable def finE (nt : Bool) (acc : Rs) : Nat := if nE acc = 0 ∧ nt = true then nE (U.S.not (nL acc)) else nE acc
noncomputable def square (l : List Tok) (i : Nat) : Res :=
 match items (l.length + 1) l (if isS (tk l (i + 1)) [94] = true then i + 2 else i + 1) [] with
 | .error e => .error e
 | .ok (acc, j) => if finE (isS (tk l (i + 1)) [94]) acc = 0 then .ok (.mk 1 (tk l i).2 (finS (isS (tk l (i + 1)) [94]) acc) [] [], j + 1) else .error (30, j)
def round (A : Nat → Res) (dp : Bool) (l : List Tok) (i : Nat) : Res :=
 if dp = false then .error (71, i)
 else if isS (tk l (i + 1)) [41] = true then .ok (.mk 3 (tk l i).2 [] [] [], i + 2)
 else match A (i + 1) with
   | .error e => .error e
   | .ok (e, j) => if isS (tk l j) [41] = true then .ok (e, j + 1) else .error (70, j)
noncomputable def prim (A : Nat → Res) (dp : Bool) (l : List Tok) (i : Nat) : Res :=
 if (tk l i).1.kind = 1 then .ok (.mk 2 (tk l i).2 [] (tk l i).1.text [], i + 1)
 else if (tk l i).1.kind = 4 then .ok (.mk 1 (tk l i).2 [((tk l i).1.r, (tk l i).1.r)] [] [], i + 1)
 else if (tk l i).1.kind = 5 then
   if U.kn (tk l i).1.text = true then .ok (.mk 1 (tk l i).2 (U.tl (tk l i).1.text) [] [], i + 1) else .error (50, i)
 else if isS (tk l i) [46] = true then .ok (.mk 1 (tk l i).2 [(0, 1114111)] [] [], i + 1)
 else if isS (tk l i) [40] = true then round A dp l i
 else if isS (tk l i) [91] = true then square l i
 else .error (70, i)
def repL : Nat → List Tok → Nat → T → T × Nat
 | 0, _, i, t => (t, i)
 | n + 1, l, i, t => if rpt (tk l i) = 0 then (t, i) else repL n l (i + 1) (.mk (rpt (tk l i)) t.at_ [] [] [t])
def repF (P : Nat → Res) (l : List Tok) (i : Nat) : Res :=
 match P i with
 | .error e => .error e
 | .ok (t, j) => .ok (repL l.length l j t)
def catL (Q : Nat → Res) : Nat → List Tok → Nat → T → Res
 | 0, _, i, t => .ok (t, i)
 | n + 1, l, i, t => if beg (tk l i) = true then match Q i with
     | .error e => .error e
     | .ok (u, j) => catL Q n l j (.mk 4 t.at_ [] [] [t, u])
   else .ok (t, i)
def catF (Q : Nat → Res) (l : List Tok) (i : Nat) : Res :=
 match Q i with
 | .error e => .error e
 | .ok (t, j) => catL Q l.length l j t
def altL (Q : Nat → Res) : Nat → List Tok → Nat → T → Res
 | 0, _, i, t => .ok (t, i)
 | n + 1, l, i, t => if isS (tk l i) [124] = true then match Q (i + 1) with
     | .error e => .error e
     | .ok (u, j) => altL Q n l j (.mk 5 t.at_ [] [] [t, u])
   else .ok (t, i)
def altF (Q : Nat → Res) (l : List Tok) (i : Nat) : Res :=
 match Q i with
 | .error e => .error e
 | .ok (t, j) => altL Q l.length l j t
noncomputable def alt : Nat → List Tok → Nat → Res
 | 0, l, i => altF (catF (repF (prim (fun _ => .error (70, 0)) false l) l) l) l i
 | d + 1, l, i => altF (catF (repF (prim (alt d l) true l) l) l) l i
noncomputable def primD : Nat → List Tok → Nat → Res
 | 0, l => prim (fun _ => .error (70, 0)) false l
 | d + 1, l => prim (alt d l) true l
noncomputable def repD (d : Nat) (l : List Tok) : Nat → Res := repF (primD d l) l
noncomputable def catD (d : Nat) (l : List Tok) : Nat → Res := catF (repD d l) l
theorem alt_eq (d : Nat) (l : List Tok) (i : Nat) : alt d l i = altF (catD d l) l i := by cases d <;> rfl
noncomputable def roundD : Nat → List Tok → Nat → Res
 | 0, l => round (fun _ => .error (70, 0)) false l
 | d + 1, l => round (alt d l) true l
theorem primD_eq (d : Nat) (l : List Tok) (i : Nat) : primD d l i =
  if (tk l i).1.kind = 1 then .ok (.mk 2 (tk l i).2 [] (tk l i).1.text [], i + 1)
  else if (tk l i).1.kind = 4 then .ok (.mk 1 (tk l i).2 [((tk l i).1.r, (tk l i).1.r)] [] [], i + 1)
  else if (tk l i).1.kind = 5 then
    if U.kn (tk l i).1.text = true then .ok (.mk 1 (tk l i).2 (U.tl (tk l i).1.text) [] [], i + 1) else .error (50, i)
  else if isS (tk l i) [46] = true then .ok (.mk 1 (tk l i).2 [(0, 1114111)] [] [], i + 1)
  else if isS (tk l i) [40] = true then roundD d l i
  else if isS (tk l i) [91] = true then square l i
  else .error (70, i) := by cases d <;> rfl
def Good (l : List Tok) : Prop := ∀ x ∈ l, (0 ≤ x.1.r ∧ x.1.r ≤ 1114111 ∧ x.1.text.length ≤ 100000) ∧ x.1.kind ≠ 5 ∧ isS x [91] = false ∧ isS x [46] = false
theorem tk_lt {l : List Tok} {i : Nat} (h : (tk l i).1.kind ≠ 0) : i < l.length := by
 apply Decidable.byContradiction
 intro hn
 apply h
 rw [tk, List.getD_eq_getElem?_getD, List.getElem?_eq_none (by omega)]
 rfl
theorem isS_lt {l : List Tok} {i : Nat} {c : List UInt8} (h : isS (tk l i) c = true) : i < l.length := by
 apply tk_lt
 intro h0
 simp [isS, h0] at h
theorem tk_good {l : List Tok} (hg : Good l) (i : Nat) : 0 ≤ (tk l i).1.r ∧ (tk l i).1.r ≤ 1114111 ∧ (tk l i).1.text.length ≤ 100000 := by
 by_cases h : i < l.length
 · have e : tk l i = l[i] := by rw [tk, List.getD_eq_getElem?_getD, List.getElem?_eq_getElem h]; rfl
   rw [e]
   exact (hg _ (List.getElem_mem h)).1
 · rw [tk, List.getD_eq_getElem?_getD, List.getElem?_eq_none (by omega)]
   decide
theorem tk_light {l : List Tok} (hg : Good l) (i : Nat) : (tk l i).1.kind ≠ 5 ∧ isS (tk l i) [91] = false ∧ isS (tk l i) [46] = false := by
 by_cases h : i < l.length
 · have e : tk l i = l[i] := by rw [tk, List.getD_eq_getElem?_getD, List.getElem?_eq_getElem h]; rfl
   rw [e]
   exact (hg _ (List.getElem_mem h)).2
 · rw [tk, List.getD_eq_getElem?_getD, List.getElem?_eq_none (by omega)]
   decide
theorem rpt_lt {l : List Tok} {i : Nat} (h : rpt (tk l i) ≠ 0) : i < l.length := by
 unfold rpt at h
 split at h
 · rename_i q; exact isS_lt q
 · split at h
   · rename_i q; exact isS_lt q
   · split at h
     · rename_i q; exact isS_lt q
     · exact absurd rfl h
theorem beg_lt {l : List Tok} {i : Nat} (h : beg (tk l i) = true) : i < l.length := by
 simp only [beg, Bool.or_eq_true, decide_eq_true_eq] at h
 rcases h with h | h | h | h | h | h
 · exact tk_lt (by omega)
 · exact tk_lt (by omega)
 · exact tk_lt (by omega)
 all_goals exact isS_lt h
theorem len_ite {c : Prop} [Decidable c] {a b : Rs} {n : Nat} (h1 : a.length ≤ n) (h2 : b.length ≤ n) : (if c then a else b).length ≤ n := by
 split
 · exact h1
 · exact h2
theorem tl_len (s : List UInt8) : (U.tl s).length ≤ 8 := by
 unfold U.tl
 repeat' apply len_ite
 all_goals decide
theorem item_far {l : List Tok} {i j : Nat} {s : Rs} (h : item l i = .ok (s, j)) : i < j ∧ j ≤ l.length ∧ s.length ≤ 8 := by
 unfold item at h
 split at h
 · rename_i h4
   split at h
   · split at h
     · split at h
       · cases h
         rename_i q _
         exact ⟨by omega, tk_lt (i := i + 2) (by omega), by simp⟩
       · cases h
     · cases h
   · cases h
     exact ⟨by omega, tk_lt (by omega), by simp⟩
 · split at h
   · split at h
     · cases h
       refine ⟨by omega, tk_lt (by omega), ?_⟩
       exact tl_len _
     · cases h
   · cases h
theorem items_far : ∀ (n : Nat) {l : List Tok} {i j : Nat} {acc s : Rs}, items n l i acc = .ok (s, j) → i ≤ j ∧ j < l.length ∧ isS (tk l j) [93] = true ∧ s.length ≤ acc.length + 8 * (j - i)
 | 0, _, _, _, _, _, h => by cases h
 | n + 1, l, i, j, acc, s, h => by
   unfold items at h
   split at h
   · cases h
     rename_i q
     exact ⟨Nat.le_refl _, isS_lt q, q, by omega⟩
   · cases hi : item l i with
     | error e => rw [hi] at h; cases h
     | ok p =>
       obtain ⟨u, k⟩ := p
       rw [hi] at h
       have h1 := item_far hi
       have h2 := items_far n h
       rw [List.length_append] at h2
       exact ⟨by omega, h2.2.1, h2.2.2.1, by omega⟩
theorem square_far {l : List Tok} {i j : Nat} {t : T} (h : square l i = .ok (t, j)) : i < j ∧ j ≤ l.length := by
 unfold square at h
 split at h
 · cases h
 · rename_i acc k hk
   have h1 := items_far _ hk
   split at h
   · cases h
     constructor
     · have := h1.1
       split at this <;> omega
     · omega
   · cases h
def Far (l : List Tok) (A : Nat → Res) : Prop := ∀ i t j, A i = .ok (t, j) → i < j ∧ j ≤ l.length
theorem round_far {A : Nat → Res} {dp : Bool} {l : List Tok} (hA : Far l A) : Far l (round A dp l) := by
 intro i t j h
 unfold round at h
 split at h
 · cases h
 · split at h
   · cases h
     rename_i q
     have := isS_lt q
     omega
   · split at h
     · cases h
     · rename_i e k hk
       have h1 := hA _ _ _ hk
       split at h
       · cases h
         rename_i q
         have := isS_lt q
         omega
       · cases h
theorem prim_far {A : Nat → Res} {dp : Bool} {l : List Tok} (hA : Far l A) : Far l (prim A dp l) := by
 intro i t j h
 unfold prim at h
 split at h
 · rename_i q
   cases h
   exact ⟨by omega, tk_lt (by omega)⟩
 · split at h
   · rename_i q
     cases h
     exact ⟨by omega, tk_lt (by omega)⟩
   · split at h
     · rename_i q
       split at h
       · cases h
         exact ⟨by omega, tk_lt (by omega)⟩
       · cases h
     · split at h
       · rename_i q
         cases h
         exact ⟨by omega, isS_lt q⟩
       · split at h
         · exact round_far hA _ _ _ h
         · split at h
           · exact square_far h
           · cases h
theorem repL_far : ∀ (n : Nat) (l : List Tok) (i : Nat) (t : T), i ≤ (repL n l i t).2 ∧ (i ≤ l.length → (repL n l i t).2 ≤ l.length)
 | 0, l, i, t => ⟨Nat.le_refl _, fun h => h⟩
 | n + 1, l, i, t => by
   unfold repL
   split
   · exact ⟨Nat.le_refl _, fun h => h⟩
   · rename_i q
     have h1 := repL_far n l (i + 1) (.mk (rpt (tk l i)) t.at_ [] [] [t])
     have h2 := rpt_lt q
     exact ⟨by omega, fun _ => h1.2 (by omega)⟩
theorem repF_far {P : Nat → Res} {l : List Tok} (hP : Far l P) : Far l (repF P l) := by
 intro i t j h
 unfold repF at h
 split at h
 · cases h
 · rename_i u k hk
   have h1 := hP _ _ _ hk
   have h2 := repL_far l.length l k u
   have h3 : repL l.length l k u = (t, j) := by injection h
   rw [h3] at h2
   exact ⟨by omega, h2.2 h1.2⟩
theorem catL_far {Q : Nat → Res} {l : List Tok} (hQ : Far l Q) : ∀ (n : Nat) (i : Nat) (t u : T) (j : Nat), i ≤ l.length → catL Q n l i t = .ok (u, j) → i ≤ j ∧ j ≤ l.length
 | 0, i, t, u, j, hi, h => by unfold catL at h; cases h; exact ⟨Nat.le_refl _, hi⟩
 | n + 1, i, t, u, j, hi, h => by
   unfold catL at h
   split at h
   · split at h
     · cases h
     · rename_i x k hk
       have h1 := hQ _ _ _ hk
       have h2 := catL_far hQ n k _ u j h1.2 h
       exact ⟨by omega, h2.2⟩
   · cases h; exact ⟨Nat.le_refl _, hi⟩
theorem catF_far {Q : Nat → Res} {l : List Tok} (hQ : Far l Q) : Far l (catF Q l) := by
 intro i t j h
 unfold catF at h
 split at h
 · cases h
 · rename_i x k hk
   have h1 := hQ _ _ _ hk
   have h2 := catL_far hQ _ k _ t j h1.2 h
   exact ⟨by omega, h2.2⟩
theorem altL_far {Q : Nat → Res} {l : List Tok} (hQ : Far l Q) : ∀ (n : Nat) (i : Nat) (t u : T) (j : Nat), i ≤ l.length → altL Q n l i t = .ok (u, j) → i ≤ j ∧ j ≤ l.length
 | 0, i, t, u, j, hi, h => by unfold altL at h; cases h; exact ⟨Nat.le_refl _, hi⟩
 | n + 1, i, t, u, j, hi, h => by
   unfold altL at h
   split at h
   · split at h
     · cases h
     · rename_i x k hk
       have h1 := hQ _ _ _ hk
       have h2 := altL_far hQ n k _ u j h1.2 h
       exact ⟨by omega, h2.2⟩
   · cases h; exact ⟨Nat.le_refl _, hi⟩
theorem altF_far {Q : Nat → Res} {l : List Tok} (hQ : Far l Q) : Far l (altF Q l) := by
 intro i t j h
 unfold altF at h
 split at h
 · cases h
 · rename_i x k hk
   have h1 := hQ _ _ _ hk
   have h2 := altL_far hQ _ k _ t j h1.2 h
   exact ⟨by omega, h2.2⟩
theorem alt_far (l : List Tok) : ∀ d, Far l (alt d l)
 | 0 => fun i t j h => altF_far (catF_far (repF_far (prim_far (fun _ _ _ h => by cases h)))) i t j h
 | d + 1 => fun i t j h => altF_far (catF_far (repF_far (prim_far (alt_far l d)))) i t j h
theorem primD_far (l : List Tok) : ∀ d, Far l (primD d l)
 | 0 => fun i t j h => prim_far (fun _ _ _ h => by cases h) i t j h
 | d + 1 => fun i t j h => prim_far (alt_far l d) i t j h
theorem repD_far (l : List Tok) (d : Nat) : Far l (repD d l) := repF_far (primD_far l d)
theorem catD_far (l : List Tok) (d : Nat) : Far l (catD d l) := catF_far (repD_far l d)
end E
end Go.Proofs.YtgngaldoemopjaaGreatDoor
