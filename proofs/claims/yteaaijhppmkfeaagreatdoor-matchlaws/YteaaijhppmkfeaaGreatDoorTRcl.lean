/- Regions that draw their order, in which one operation waits for all others. -/
import Derived.Test.YteaaijhppmkfeaaGreatDoorTJD
import Derived.WalkSmall
namespace Go.Proofs.YteaaijhppmkfeaaGreatDoor
open Go.RowKit
attribute [local go_sem] Oper.semAt_some
namespace Rcl
def nowB (ops : Array Oper) (a : Act) (l : List (Nat × Value)) (o : Oper) : Bool :=
 match o.guard with
 | none => false
 | some (j, want) => match (ops[j]?).bind (·.dst) with
   | none => false
   | some d => Nat.blt d a.tmps.size && (match Reg.look a l d with
     | .bool b => b != want
     | _ => true)
theorem unwanted_of (ops : Array Oper) (a : Act) (l : List (Nat × Value)) (o : Oper) (hb : Reg.inB a l = true) (h : nowB ops a l o = true) : Region.wanted o (yielded ops (Reg.ov a l).tmps) = false := by
 unfold nowB at h
 unfold Region.wanted
 split at h
 · cases h
 · rename_i j want hg
   rw [hg]
   simp only
   split at h
   · cases h
   · rename_i d hd
     simp only [Bool.and_eq_true] at h
     have hlt : d < (Reg.ov a l).tmps.size := by rw [Reg.ov_size]; have := h.1; rw [Nat.blt_eq] at this; exact this
     have hlk := Reg.ov_look a d l hb
     unfold yielded
     rw [hd, Option.bind_some]
     have e : (Reg.ov a l).tmps[d]? = some (Reg.look a l d) := by
       rw [← hlk, Array.getElem?_eq_getElem hlt]
       simp [Array.getD, hlt]
     rw [e]
     have h2 := h.2
     generalize Reg.look a l d = v at *
     cases v <;> simp_all
end Rcl
theorem Rcl.ix {P : Program} {w : World} {ρ : Operand → Value} {o : Oper} {t : TypeId} {x y : Operand} {b off len cap k s : Nat} {q : IntKind} (hop : o.op = .indexAddr t x y) (hx : ρ x = .slice (some ⟨b, off, none⟩) len cap) (hy : ρ y = .int q (k : Int)) (hk : k < len)
   (ht : P.underlying t = some (.slice (P.elem t))) (hs : (sizeOf (P.elem t)).run P w = .ok s w) : (execOp ρ o).run P w = .ok (.value (.pointer (some ⟨b, off + k * s, none⟩))) w := by
 obtain ⟨dst, op, type, pos, after, guard⟩ := o
 simp only at hop
 subst hop
 have h1 : 0 ≤ (k : Int) ∧ (k : Int) < (len : Int) := by omega
 simp only [execOp, hx, hy, Sem.run_bind]
 rw [run_indexAt_slice w t ⟨b, off, none⟩ len cap q (k : Int) ht, if_pos h1, hs]
 simp only [Result.andThen, Int.toNat_natCast, Addr.add_mid, Sem.run_pure]
theorem Rcl.lss {P : Program} {w : World} {ρ : Operand → Value} {o : Oper} {t t' : TypeId} {x y : Operand} {k : IntKind} {m n : Int} {b : Bool} (hop : o.op = .binOp .lss t x y t') (hx : ρ x = .int k m) (hy : ρ y = .int k n) (h : decide (m < n) = b) :
   (execOp ρ o).run P w = .ok (.value (.bool b)) w := by
 obtain ⟨dst, op, type, pos, after, guard⟩ := o
 simp only at hop
 subst hop
 subst h
 simp [execOp, hx, hy, eqGuard, binOp, Op.intCmp]
/- What operations yield. -/
section
variable {w : World} {ρ : Operand → Value} {o : Oper}
theorem Rcl.mv {P : Program} {x : Operand} {v : Value} (hop : o.op = .move x) (hx : ρ x = v) : (execOp ρ o).run P w = .ok (.value v) w := by
 obtain ⟨dst, op, type, pos, after, guard⟩ := o
 simp only at hop
 subst hop
 simp [execOp, hx]
theorem Rcl.nc {P : Program} {x : Operand} {a : Addr} (hop : o.op = .nilCheck x) (hx : ρ x = .pointer (some a)) : (execOp ρ o).run P w = .ok (.value (.pointer (some a))) w := by
 obtain ⟨dst, op, type, pos, after, guard⟩ := o
 simp only at hop
 subst hop
 simp [execOp, hx, go_sem]
end
theorem Rcl.ld1 {P : Program} {w : World} {ρ : Operand → Value} {o : Oper} {ty : TypeId} {x : Operand} {a : Addr} {v : Value} (hop : o.op = .load ty x) (hx : ρ x = .pointer (some a)) (hc : w.cell? a = some v) (hagg : (isAgg ty).run P w = .ok false w) : (execOp ρ o).run P w = .ok (.value v) w := by
 obtain ⟨dst, op, type, pos, after, guard⟩ := o
 simp only at hop
 subst hop
 simp [execOp, hx, Instr.loadAt, Instr.sureAddr, loadVar, Sem.run_bind, hagg, hc, Result.andThen]
theorem Rcl.faP {w : World} {ρ : Operand → Value} {o : Oper} {x : Operand} {b off i : Nat} (hop : o.op = .fieldAddr 148 x i) (hx : ρ x = .pointer (some ⟨b, off, none⟩)) (hi : i = 2 ∨ i = 4) : (execOp ρ o).run Tryz.prog w = .ok (.value (.pointer (some ⟨b, off + i, none⟩))) w := by
 obtain ⟨dst, op, type, pos, after, guard⟩ := o
 simp only at hop
 subst hop
 rcases hi with rfl | rfl <;> simp [execOp, hx, go_sem]
theorem Rcl.pk {w : World} {ρ : Operand → Value} {o : Oper} {c x y : Operand} {b : Bool} {v : Value} (hop : o.op = .pick c x y) (hc : ρ c = .bool b) (hx : (if b then ρ x else ρ y) = v) : (execOp ρ o).run Tryz.prog w = .ok (.value v) w := by
 obtain ⟨dst, op, type, pos, after, guard⟩ := o
 simp only at hop
 subst hop
 subst hx
 simp only [execOp, hc]
 cases b <;> rfl
/- Regions that draw, in which all operations but one only read, and that one waits for them, by whatever way. -/
namespace Rcl
def anyS (P : Program) (ops : Array Oper) (Q : Exit → Act → World → Prop) (s : Nat) (T : World → Prop) : Nat → Array Bool → Act → World → Prop
 | 0, listed, a, w => Region.ready .any ops listed = [] ∧ Q .normal a w
 | fuel + 1, listed, a, w =>
   (Region.ready .any ops listed = [] → Q .normal a w) ∧
   ∀ i ∈ Region.ready .any ops listed, wpOp P ops Q i (fun a' w' => ((listed.setIfInBounds i true).getD s true = true ∨ T w') ∧ anyS P ops Q s T fuel (listed.setIfInBounds i true) a' w') a w
theorem any_of {P : Program} {ops : Array Oper} {Q : Exit → Act → World → Prop} {s : Nat} {T : World → Prop} : ∀ (fuel : Nat) (listed : Array Bool) (a : Act) (w : World), anyS P ops Q s T fuel listed a w → wpAny P .any ops Q fuel listed a w
 | 0, _, _, _, h => h
 | fuel + 1, _, _, _, h => ⟨h.1, fun i hi => wpOp_mono (fun a' w' h' => any_of fuel _ a' w' h'.2) (h.2 i hi)⟩
def Cl (ops : Array Oper) (listed : Array Bool) : Prop := ∀ (j : Nat) (oj : Oper), ops[j]? = some oj → listed.getD j true = true → ∀ e ∈ oj.after, Region.binds .any e = true → listed.getD e.on true = true
def anc (ops : Array Oper) : Nat → Nat → Nat → Bool
 | 0, _, _ => false
 | f + 1, s, i => match ops[s]? with
   | some os => os.after.toList.any fun e => Region.binds .any e && (Nat.beq e.on i || anc ops f e.on i)
   | none => false
theorem anc_listed {ops : Array Oper} {listed : Array Bool} (hc : Cl ops listed) : ∀ (f s i : Nat) (os : Oper), ops[s]? = some os → anc ops f s i = true → (∀ e ∈ os.after, Region.binds .any e = true → listed.getD e.on true = true) → listed.getD i true = true
 | 0, s, i, os, _, h, _ => by simp [anc] at h
 | f + 1, s, i, os, ho, h, hl => by
   rw [anc, ho] at h
   obtain ⟨e, he, h2⟩ := List.any_eq_true.1 h
   simp only [Bool.and_eq_true, Bool.or_eq_true] at h2
   have he' : e ∈ os.after := by simpa using he
   have h3 := hl e he' h2.1
   rcases h2.2 with h4 | h4
   · rw [← Nat.eq_of_beq_eq_true h4]; exact h3
   · cases hj : ops[e.on]? with
     | none =>
       cases f with
       | zero => simp [anc] at h4
       | succ f => rw [anc, hj] at h4; cases h4
     | some oj => exact anc_listed hc f e.on i oj hj h4 (hc e.on oj hj h3)
theorem cl_set {ops : Array Oper} {listed : Array Bool} {j : Nat} (hc : Cl ops listed) (hj : j ∈ Region.ready .any ops listed) : Cl ops (listed.setIfInBounds j true) := by
 have up : ∀ k, listed.getD k true = true → (listed.setIfInBounds j true).getD k true = true := by
   intro k hk
   by_cases hjk : j = k
   · subst hjk
     rw [Array.getD_eq_getD_getElem?, Array.getElem?_setIfInBounds]
     simp only [if_true]
     split <;> simp
   · rw [getD_set_ne true hjk]; exact hk
 intro k ok hk hl e he hb
 by_cases hjk : j = k
 · subst hjk
   obtain ⟨_, oj, hoj, hall⟩ := mem_ready.1 hj
   rw [hk] at hoj
   cases hoj
   have h2 := hall e he hb
   refine up _ ?_
   rcases Nat.lt_or_ge e.on listed.size with h' | h'
   · simp [h'] at h2 ⊢
     exact h2
   · simp [Array.getElem?_eq_none h'] at h2 ⊢
 · rw [getD_set_ne true hjk] at hl
   exact up _ (hc k ok hk hl e he hb)
theorem first {P : Program} {ops : Array Oper} {Q : Exit → Act → World → Prop} {s : Nat} {T : World → Prop} {i : Nat} {oi : Oper} {v : Value} (hi : ops[i]? = some oi) (hsel : ∀ (j : Nat) (o : Oper) cs b, ops[j]? = some o → o.op ≠ .select cs b)
   (hQ : ∀ c a w, Q (.panic c) (a.put oi.dst v) w → Q (.panic c) a w) (his : s ≠ i) (f : Nat) (hwait : anc ops f s i = true) :
   ∀ (fuel : Nat) (listed : Array Bool) (a : Act) (w : World), Cl ops listed →
     (∀ j oj, ops[j]? = some oj → j ≠ i → listed.getD j true = false → (∀ e ∈ oj.after, Region.binds .any e = true → e.on ≠ i) → oi.apart ops oj = true) →
     i ∈ Region.ready .any ops listed → YieldsIf P ops T oi v a → T w → listed.getD s true = false →
     anyS P ops Q s T fuel (listed.setIfInBounds i true) (a.put oi.dst v) w → anyS P ops Q s T (fuel + 1) listed a w := by
 intro fuel
 induction fuel with
 | zero =>
   intro listed a w _ _ hr hy hT hs H
   refine ⟨fun h => (by rw [h] at hr; cases hr), fun j hj => ?_⟩
   by_cases hji : j = i
   · subst hji
     exact hy.wpOp hi hT ⟨.inr hT, H⟩
   · have := ready_mono hj hji
     rw [H.1] at this
     cases this
 | succ fuel ih =>
   intro listed a w hcl hfree hr hy hT hs H
   refine ⟨fun h => (by rw [h] at hr; cases hr), fun j hj => ?_⟩
   by_cases hji : j = i
   · subst hji
     exact hy.wpOp hi hT ⟨.inr hT, H⟩
   · have h1 := H.2 j (ready_mono hj hji)
     obtain ⟨hjun, oj, hoj, hall⟩ := mem_ready.1 hj
     have hun0 : listed.getD i true = true → False := fun h2 => by
       have h0 := (mem_ready.1 hr).1
       rcases Nat.lt_or_ge i listed.size with h' | h'
       · simp [h'] at h0 h2
         rw [h0] at h2
         cases h2
       · simp [Array.getElem?_eq_none h'] at h0
     have hall' : ∀ e ∈ oj.after, Region.binds .any e = true → listed.getD e.on true = true := fun e he hb => by
       have h2 := hall e he hb
       rcases Nat.lt_or_ge e.on listed.size with h' | h'
       · simp [h'] at h2 ⊢
         exact h2
       · simp [Array.getElem?_eq_none h'] at h2 ⊢
     have hnot : ∀ e ∈ oj.after, Region.binds .any e = true → e.on ≠ i := fun e he hb heq => by
       have h2 := hall' e he hb
       rw [heq] at h2
       exact hun0 h2
     have hjs : j ≠ s := by
       rintro rfl
       exact hun0 (anc_listed hcl f j i oj hoj hwait hall')
     have h2 := wpOp_putIf hoj (hfree j oj hoj hji hjun hnot) (fun cs b => hsel i oi cs b hi) (fun cs b => hsel j oj cs b hoj) hQ hy h1
     have hs2 : (listed.setIfInBounds j true).getD s true = false := by rw [getD_set_ne true hjs]; exact hs
     have hfree' : ∀ k ok, ops[k]? = some ok → k ≠ i → (listed.setIfInBounds j true).getD k true = false →
         (∀ e ∈ ok.after, Region.binds .any e = true → e.on ≠ i) → oi.apart ops ok = true := fun k ok hk hki hun hno => by
       refine hfree k ok hk hki ?_ hno
       by_cases hjk : j = k
       · subst hjk; exact hjun
       · rw [getD_set_ne true hjk] at hun; exact hun
     refine wpOp_mono (fun a' w' h3 => ?_) h2
     have hT' : T w' := by
       rcases h3.2.1 with h4 | h4
       · rw [Array.setIfInBounds_comm _ _ (Ne.symm hji), getD_set_ne true (Ne.symm his), hs2] at h4
         cases h4
       · exact h4
     refine ⟨.inr hT', ih (listed.setIfInBounds j true) a' w' (cl_set hcl hj) hfree' (ready_mono hr (Ne.symm hji)) h3.1 hT' hs2 ?_⟩
     rw [Array.setIfInBounds_comm _ _ hji]
     exact h3.2.2
def G2 (P : Program) (ops : Array Oper) (Q : Exit → Act → World → Prop) (a : Act) (s : Nat) (T : World → Prop) (fuel : Nat) (ks : List Nat) (l : List (Nat × Value)) (w : World) : Prop :=
 anyS P ops Q s T fuel (Reg.lst ops.size ks) (Reg.ov a l) w
def clB (ops : Array Oper) (listed : Array Bool) : Bool := (List.range ops.size).all fun j => match ops[j]? with
 | some oj => !(listed.getD j true) || oj.after.toList.all fun e => !(Region.binds .any e) || listed.getD e.on true
 | none => true
theorem clB_spec {ops : Array Oper} {listed : Array Bool} (h : clB ops listed = true) : Cl ops listed := by
 intro j oj hj hl e he hb
 have hlt : j < ops.size := (Array.getElem?_eq_some_iff.1 hj).1
 have := List.all_eq_true.1 h j (List.mem_range.2 hlt)
 rw [hj] at this
 simp only [hl, Bool.not_true, Bool.false_or] at this
 have := List.all_eq_true.1 this e (by simpa using he)
 simpa [hb] using this
section
variable {P : Program} {ops : Array Oper} {Q : Exit → Act → World → Prop} {a : Act} {s : Nat} {T : World → Prop} {fuel : Nat} {ks : List Nat} {l : List (Nat × Value)} {w : World}
theorem start {id : Nat} (s : Nat) (T : World → Prop) (hm : P.follows .mixedOrders = true) (h : G2 P ops Q a s T ops.size [] [] w.drew) : (Code.region id ops true).wp P Q a w :=
 wp_region_any hm (any_of _ _ _ _ h)
theorem take (hQ : ∀ c (a : Act) (d : Nat) v w, Q (.panic c) (a.put (some d) v) w → Q (.panic c) a w) (i : Nat) (o : Oper) (d : Nat) (v : Value) (hi : ops[i]? = some o)
   (hc : (Region.noSelect ops && (Region.free .any ops (Reg.lst ops.size ks) i && ((Region.ready .any ops (Reg.lst ops.size ks)).contains i && (!(Nat.beq s i) && (anc ops ops.size s i && (clB ops (Reg.lst ops.size ks) && !((Reg.lst ops.size ks).getD s true))))))) = true) (hd : o.dst = some d) (hb : Reg.inB a l = true) (hw : Reg.wantB ops a l o = true)
   (hT : T w) (hy : ∀ w', T w' → (execOp (Reg.ev a l) o).run P w' = .ok (.value v) w') (h : G2 P ops Q a s T fuel (i :: ks) ((d, v) :: l) w) : G2 P ops Q a s T (fuel + 1) ks l w := by
 simp only [Bool.and_eq_true, Bool.not_eq_true'] at hc
 obtain ⟨hs, hf, hr, h1, h2, h4, h3⟩ := hc
 refine first (v := v) hi (Region.noSelect_spec hs) (fun c a' w' hh => hQ c a' d v w' (by rw [hd] at hh; exact hh)) (fun e => by rw [e, Nat.beq_refl] at h1; cases h1) _ h2 fuel _ _ w (clB_spec h4) (Region.free_spec hi hf) (by simpa using hr) (.inl ⟨Reg.wanted_of ops a l o hb hw, fun w' hw' => ?_⟩) hT h3 ?_
 · rw [Reg.ov_eval a l hb]; exact hy w' hw'
 · rw [hd]; exact h
theorem skip (hQ : ∀ c (a : Act) (d : Nat) v w, Q (.panic c) (a.put (some d) v) w → Q (.panic c) a w) (i : Nat) (o : Oper) (d : Nat) (hi : ops[i]? = some o)
   (hc : (Region.noSelect ops && (Region.free .any ops (Reg.lst ops.size ks) i && ((Region.ready .any ops (Reg.lst ops.size ks)).contains i && (!(Nat.beq s i) && (anc ops ops.size s i && (clB ops (Reg.lst ops.size ks) && !((Reg.lst ops.size ks).getD s true))))))) = true) (hd : o.dst = some d) (hb : Reg.inB a l = true) (hw : Rcl.nowB ops a l o = true)
   (hT : T w) (h : G2 P ops Q a s T fuel (i :: ks) ((d, undef) :: l) w) : G2 P ops Q a s T (fuel + 1) ks l w := by
 simp only [Bool.and_eq_true, Bool.not_eq_true'] at hc
 obtain ⟨hs, hf, hr, h1, h2, h4, h3⟩ := hc
 refine first (v := undef) hi (Region.noSelect_spec hs) (fun c a' w' hh => hQ c a' d undef w' (by rw [hd] at hh; exact hh)) (fun e => by rw [e, Nat.beq_refl] at h1; cases h1) _ h2 fuel _ _ w (clB_spec h4) (Region.free_spec hi hf) (by simpa using hr) (.inr ⟨Rcl.unwanted_of ops a l o hb hw, rfl⟩) hT h3 ?_
 rw [hd]; exact h
theorem call (o : Oper) (d f : Nat) (xs : Array Operand) (ats : Array TypeId) (vs : Array Value) (hi : ops[s]? = some o) (hr : Region.ready .any ops (Reg.lst ops.size ks) = [s]) (hd : o.dst = some d) (hb : Reg.inB a l = true) (hw : Reg.wantB ops a l o = true)
   (hop : o.op = .call { callee := .value (.func f), args := xs, argTypes := ats }) (hvs : #[] ++ xs.map (Reg.ev a l) ++ #[] = vs) (hent : (callFunc f vs).run P w = .ok (.enter f vs) w)
   {R : Ending → World → Prop} (hc : Calls P f vs w R) (hR : ∀ e w', R e w' → ∃ v, e = .returned v ∧ G2 P ops Q a s T fuel (s :: ks) ((d, v) :: l) w') : G2 P ops Q a s T (fuel + 1) ks l w := by
 refine ⟨fun h0 => (by rw [hr] at h0; cases h0), ?_⟩
 rw [hr]
 intro j hj
 obtain rfl : j = s := by simpa using hj
 unfold wpOp
 simp only [hi]
 rw [if_pos (Reg.wanted_of ops a l o hb hw)]
 refine .inl ?_
 unfold Oper.wp
 have he : (execOp (Reg.ev a l) o).run P w = .ok (.enter f vs) w := by
   obtain ⟨dst, op, type, pos, after, guard⟩ := o
   simp only at hop
   subst hop
   show (callFunc f (#[] ++ xs.map (Reg.ev a l) ++ #[])).run P w = _
   rw [hvs]
   exact hent
 rw [Reg.ov_eval a l hb, he]
 simp only [Oper.upon]
 refine hc.mono fun e w' hr' => ?_
 obtain ⟨v, rfl, hg⟩ := hR e w' hr'
 simp only [hd]
 refine ⟨.inl ?_, hg⟩
 rw [Array.getD_eq_getD_getElem?, Array.getElem?_setIfInBounds]
 simp only [if_true]
 split <;> simp
theorem done (hr : Region.ready .any ops (Reg.lst ops.size ks) = []) (h : Q .normal (Reg.ov a l) w) : G2 P ops Q a s T fuel ks l w := by
 unfold G2
 cases fuel with
 | zero => exact ⟨hr, h⟩
 | succ f => exact ⟨fun _ => h, by rw [hr]; simp⟩
end
end Rcl
end Go.Proofs.YteaaijhppmkfeaaGreatDoor
