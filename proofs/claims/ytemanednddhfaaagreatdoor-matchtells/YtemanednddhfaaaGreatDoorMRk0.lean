/- Joined: Rcl Prt Rk0. -/
import Derived.Test.YtemanednddhfaaaGreatDoorMJD
import Derived.WalkSmall
import Derived.Test.YtemanednddhfaaaGreatDoorMMtm
import Derived.Test.YtemanednddhfaaaGreatDoorMJA
namespace Go.Proofs.YtemanednddhfaaaGreatDoor
open Go.RowKit
attribute [local go_sem] Oper.semAt_some
namespace Rcl
def nowB (ops : Array Oper) (a : Act) (l : List (Nat × Value)) (o : Oper) : Bool :=
 match o.guard with
 | none => false
 | some (j, want) => match (ops[j]?).bind (·.dst) with
   | none => false
   | some d => Nat.blt d a.tmps.size && (match Reg.look a l d with
     | .bool b => b != want
     | _ => true)
theorem unwanted_of (ops : Array Oper) (a : Act) (l : List (Nat × Value)) (o : Oper) (hb : Reg.inB a l = true) (h : nowB ops a l o = true) : Region.wanted o (yielded ops (Reg.ov a l).tmps) = false := by
 unfold nowB at h
 unfold Region.wanted
 split at h
 · cases h
 · rename_i j want hg
   rw [hg]
   simp only
   split at h
   · cases h
   · rename_i d hd
     simp only [Bool.and_eq_true] at h
     have hlt : d < (Reg.ov a l).tmps.size := by rw [Reg.ov_size]; have := h.1; rw [Nat.blt_eq] at this; exact this
     have hlk := Reg.ov_look a d l hb
     unfold yielded
     rw [hd, Option.bind_some]
     have e : (Reg.ov a l).tmps[d]? = some (Reg.look a l d) := by
       rw [← hlk, Array.getElem?_eq_getElem hlt]
       simp [Array.getD, hlt]
     rw [e]
     have h2 := h.2
     generalize Reg.look a l d = v at *
     cases v <;> simp_all
end Rcl
theorem Rcl.ix {P : Program} {w : World} {ρ : Operand → Value} {o : Oper} {t : TypeId} {x y : Operand} {b off len cap k s : Nat} {q : IntKind} (hop : o.op = .indexAddr t x y) (hx : ρ x = .slice (some ⟨b, off, none⟩) len cap) (hy : ρ y = .int q (k : Int)) (hk : k < len)
   (ht : P.underlying t = some (.slice (P.elem t))) (hs : (sizeOf (P.elem t)).run P w = .ok s w) : (execOp ρ o).run P w = .ok (.value (.pointer (some ⟨b, off + k * s, none⟩))) w := by
 obtain ⟨dst, op, type, pos, after, guard⟩ := o
 simp only at hop
 subst hop
 have h1 : 0 ≤ (k : Int) ∧ (k : Int) < (len : Int) := by omega
 simp only [execOp, hx, hy, Sem.run_bind]
 rw [run_indexAt_slice w t ⟨b, off, none⟩ len cap q (k : Int) ht, if_pos h1, hs]
 simp only [Result.andThen, Int.toNat_natCast, Addr.add_mid, Sem.run_pure]
section
variable {w : World} {ρ : Operand → Value} {o : Oper}
theorem Rcl.mv {P : Program} {x : Operand} {v : Value} (hop : o.op = .move x) (hx : ρ x = v) : (execOp ρ o).run P w = .ok (.value v) w := by
 obtain ⟨dst, op, type, pos, after, guard⟩ := o
 simp only at hop
 subst hop
 simp [execOp, hx]
theorem Rcl.nc {P : Program} {x : Operand} {a : Addr} (hop : o.op = .nilCheck x) (hx : ρ x = .pointer (some a)) : (execOp ρ o).run P w = .ok (.value (.pointer (some a))) w := by
 obtain ⟨dst, op, type, pos, after, guard⟩ := o
 simp only at hop
 subst hop
 simp [execOp, hx, go_sem]
end
theorem Rcl.ld1 {P : Program} {w : World} {ρ : Operand → Value} {o : Oper} {ty : TypeId} {x : Operand} {a : Addr} {v : Value} (hop : o.op = .load ty x) (hx : ρ x = .pointer (some a)) (hc : w.cell? a = some v) (hagg : (isAgg ty).run P w = .ok false w) : (execOp ρ o).run P w = .ok (.value v) w := by
 obtain ⟨dst, op, type, pos, after, guard⟩ := o
 simp only at hop
 subst hop
 simp [execOp, hx, Instr.loadAt, Instr.sureAddr, loadVar, Sem.run_bind, hagg, hc, Result.andThen]
theorem Rcl.faP {w : World} {ρ : Operand → Value} {o : Oper} {x : Operand} {b off i : Nat} (hop : o.op = .fieldAddr 147 x i) (hx : ρ x = .pointer (some ⟨b, off, none⟩)) (hi : i = 2 ∨ i = 4) : (execOp ρ o).run Tryz.prog w = .ok (.value (.pointer (some ⟨b, off + i, none⟩))) w := by
 obtain ⟨dst, op, type, pos, after, guard⟩ := o
 simp only at hop
 subst hop
 rcases hi with rfl | rfl <;> simp [execOp, hx, go_sem]
theorem Rcl.pk {w : World} {ρ : Operand → Value} {o : Oper} {c x y : Operand} {b : Bool} {v : Value} (hop : o.op = .pick c x y) (hc : ρ c = .bool b) (hx : (if b then ρ x else ρ y) = v) : (execOp ρ o).run Tryz.prog w = .ok (.value v) w := by
 obtain ⟨dst, op, type, pos, after, guard⟩ := o
 simp only at hop
 subst hop
 subst hx
 simp only [execOp, hc]
 cases b <;> rfl
namespace Rcl
def anyS (P : Program) (ops : Array Oper) (Q : Exit → Act → World → Prop) (s : Nat) (T : World → Prop) : Nat → Array Bool → Act → World → Prop
 | 0, listed, a, w => Region.ready .any ops listed = [] ∧ Q .normal a w
 | fuel + 1, listed, a, w =>
   (Region.ready .any ops listed = [] → Q .normal a w) ∧
   ∀ i ∈ Region.ready .any ops listed, wpOp P ops Q i (fun a' w' => ((listed.setIfInBounds i true).getD s true = true ∨ T w') ∧ anyS P ops Q s T fuel (listed.setIfInBounds i true) a' w') a w
theorem any_of {P : Program} {ops : Array Oper} {Q : Exit → Act → World → Prop} {s : Nat} {T : World → Prop} : ∀ (fuel : Nat) (listed : Array Bool) (a : Act) (w : World), anyS P ops Q s T fuel listed a w → wpAny P .any ops Q fuel listed a w
 | 0, _, _, _, h => h
 | fuel + 1, _, _, _, h => ⟨h.1, fun i hi => wpOp_mono (fun a' w' h' => any_of fuel _ a' w' h'.2) (h.2 i hi)⟩
def Cl (ops : Array Oper) (listed : Array Bool) : Prop := ∀ (j : Nat) (oj : Oper), ops[j]? = some oj → listed.getD j true = true → ∀ e ∈ oj.after, Region.binds .any e = true → listed.getD e.on true = true
def anc (ops : Array Oper) : Nat → Nat → Nat → Bool
 | 0, _, _ => false
 | f + 1, s, i => match ops[s]? with
   | some os => os.after.toList.any fun e => Region.binds .any e && (Nat.beq e.on i || anc ops f e.on i)
   | none => false
theorem anc_listed {ops : Array Oper} {listed : Array Bool} (hc : Cl ops listed) : ∀ (f s i : Nat) (os : Oper), ops[s]? = some os → anc ops f s i = true → (∀ e ∈ os.after, Region.binds .any e = true → listed.getD e.on true = true) → listed.getD i true = true
 | 0, s, i, os, _, h, _ => by simp [anc] at h
 | f + 1, s, i, os, ho, h, hl => by
   rw [anc, ho] at h
   obtain ⟨e, he, h2⟩ := List.any_eq_true.1 h
   simp only [Bool.and_eq_true, Bool.or_eq_true] at h2
   have he' : e ∈ os.after := by simpa using he
   have h3 := hl e he' h2.1
   rcases h2.2 with h4 | h4
   · rw [← Nat.eq_of_beq_eq_true h4]; exact h3
   · cases hj : ops[e.on]? with
     | none =>
       cases f with
       | zero => simp [anc] at h4
       | succ f => rw [anc, hj] at h4; cases h4
     | some oj => exact anc_listed hc f e.on i oj hj h4 (hc e.on oj hj h3)
theorem cl_set {ops : Array Oper} {listed : Array Bool} {j : Nat} (hc : Cl ops listed) (hj : j ∈ Region.ready .any ops listed) : Cl ops (listed.setIfInBounds j true) := by
 have up : ∀ k, listed.getD k true = true → (listed.setIfInBounds j true).getD k true = true := by
   intro k hk
   by_cases hjk : j = k
   · subst hjk
     rw [Array.getD_eq_getD_getElem?, Array.getElem?_setIfInBounds]
     simp only [if_true]
     split <;> simp
   · rw [getD_set_ne true hjk]; exact hk
 intro k ok hk hl e he hb
 by_cases hjk : j = k
 · subst hjk
   obtain ⟨_, oj, hoj, hall⟩ := mem_ready.1 hj
   rw [hk] at hoj
   cases hoj
   have h2 := hall e he hb
   refine up _ ?_
   rcases Nat.lt_or_ge e.on listed.size with h' | h'
   · simp [h'] at h2 ⊢
     exact h2
   · simp [Array.getElem?_eq_none h'] at h2 ⊢
 · rw [getD_set_ne true hjk] at hl
   exact up _ (hc k ok hk hl e he hb)
theorem first {P : Program} {ops : Array Oper} {Q : Exit → Act → World → Prop} {s : Nat} {T : World → Prop} {i : Nat} {oi : Oper} {v : Value} (hi : ops[i]? = some oi) (hsel : ∀ (j : Nat) (o : Oper) cs b, ops[j]? = some o → o.op ≠ .select cs b)
   (hQ : ∀ c a w, Q (.panic c) (a.put oi.dst v) w → Q (.panic c) a w) (his : s ≠ i) (f : Nat) (hwait : anc ops f s i = true) :
   ∀ (fuel : Nat) (listed : Array Bool) (a : Act) (w : World), Cl ops listed →
     (∀ j oj, ops[j]? = some oj → j ≠ i → listed.getD j true = false → (∀ e ∈ oj.after, Region.binds .any e = true → e.on ≠ i) → oi.apart ops oj = true) →
     i ∈ Region.ready .any ops listed → YieldsIf P ops T oi v a → T w → listed.getD s true = false →
     anyS P ops Q s T fuel (listed.setIfInBounds i true) (a.put oi.dst v) w → anyS P ops Q s T (fuel + 1) listed a w := by
 intro fuel
 induction fuel with
 | zero =>
   intro listed a w _ _ hr hy hT hs H
   refine ⟨fun h => (by rw [h] at hr; cases hr), fun j hj => ?_⟩
   by_cases hji : j = i
   · subst hji
     exact hy.wpOp hi hT ⟨.inr hT, H⟩
   · have := ready_mono hj hji
     rw [H.1] at this
     cases this
 | succ fuel ih =>
   intro listed a w hcl hfree hr hy hT hs H
   refine ⟨fun h => (by rw [h] at hr; cases hr), fun j hj => ?_⟩
   by_cases hji : j = i
   · subst hji
     exact hy.wpOp hi hT ⟨.inr hT, H⟩
   · have h1 := H.2 j (ready_mono hj hji)
     obtain ⟨hjun, oj, hoj, hall⟩ := mem_ready.1 hj
     have hun0 : listed.getD i true = true → False := fun h2 => by
       have h0 := (mem_ready.1 hr).1
       rcases Nat.lt_or_ge i listed.size with h' | h'
       · simp [h'] at h0 h2
         rw [h0] at h2
         cases h2
       · simp [Array.getElem?_eq_none h'] at h0
     have hall' : ∀ e ∈ oj.after, Region.binds .any e = true → listed.getD e.on true = true := fun e he hb => by
       have h2 := hall e he hb
       rcases Nat.lt_or_ge e.on listed.size with h' | h'
       · simp [h'] at h2 ⊢
         exact h2
       · simp [Array.getElem?_eq_none h'] at h2 ⊢
     have hnot : ∀ e ∈ oj.after, Region.binds .any e = true → e.on ≠ i := fun e he hb heq => by
       have h2 := hall' e he hb
       rw [heq] at h2
       exact hun0 h2
     have hjs : j ≠ s := by
       rintro rfl
       exact hun0 (anc_listed hcl f j i oj hoj hwait hall')
     have h2 := wpOp_putIf hoj (hfree j oj hoj hji hjun hnot) (fun cs b => hsel i oi cs b hi) (fun cs b => hsel j oj cs b hoj) hQ hy h1
     have hs2 : (listed.setIfInBounds j true).getD s true = false := by rw [getD_set_ne true hjs]; exact hs
     have hfree' : ∀ k ok, ops[k]? = some ok → k ≠ i → (listed.setIfInBounds j true).getD k true = false →
         (∀ e ∈ ok.after, Region.binds .any e = true → e.on ≠ i) → oi.apart ops ok = true := fun k ok hk hki hun hno => by
       refine hfree k ok hk hki ?_ hno
       by_cases hjk : j = k
       · subst hjk; exact hjun
       · rw [getD_set_ne true hjk] at hun; exact hun
     refine wpOp_mono (fun a' w' h3 => ?_) h2
     have hT' : T w' := by
       rcases h3.2.1 with h4 | h4
       · rw [Array.setIfInBounds_comm _ _ (Ne.symm hji), getD_set_ne true (Ne.symm his), hs2] at h4
         cases h4
       · exact h4
     refine ⟨.inr hT', ih (listed.setIfInBounds j true) a' w' (cl_set hcl hj) hfree' (ready_mono hr (Ne.symm hji)) h3.1 hT' hs2 ?_⟩
     rw [Array.setIfInBounds_comm _ _ hji]
     exact h3.2.2
def G2 (P : Program) (ops : Array Oper) (Q : Exit → Act → World → Prop) (a : Act) (s : Nat) (T : World → Prop) (fuel : Nat) (ks : List Nat) (l : List (Nat × Value)) (w : World) : Prop :=
 anyS P ops Q s T fuel (Reg.lst ops.size ks) (Reg.ov a l) w
def clB (ops : Array Oper) (listed : Array Bool) : Bool := (List.range ops.size).all fun j => match ops[j]? with
 | some oj => !(listed.getD j true) || oj.after.toList.all fun e => !(Region.binds .any e) || listed.getD e.on true
 | none => true
theorem clB_spec {ops : Array Oper} {listed : Array Bool} (h : clB ops listed = true) : Cl ops listed := by
 intro j oj hj hl e he hb
 have hlt : j < ops.size := (Array.getElem?_eq_some_iff.1 hj).1
 have := List.all_eq_true.1 h j (List.mem_range.2 hlt)
 rw [hj] at this
 simp only [hl, Bool.not_true, Bool.false_or] at this
 have := List.all_eq_true.1 this e (by simpa using he)
 simpa [hb] using this
section
variable {P : Program} {ops : Array Oper} {Q : Exit → Act → World → Prop} {a : Act} {s : Nat} {T : World → Prop} {fuel : Nat} {ks : List Nat} {l : List (Nat × Value)} {w : World}
theorem start {id : Nat} (s : Nat) (T : World → Prop) (hm : P.follows .mixedOrders = true) (h : G2 P ops Q a s T ops.size [] [] w.drew) : (Code.region id ops true).wp P Q a w :=
 wp_region_any hm (any_of _ _ _ _ h)
theorem take (hQ : ∀ c (a : Act) (d : Nat) v w, Q (.panic c) (a.put (some d) v) w → Q (.panic c) a w) (i : Nat) (o : Oper) (d : Nat) (v : Value) (hi : ops[i]? = some o)
   (hc : (Region.noSelect ops && (Region.free .any ops (Reg.lst ops.size ks) i && ((Region.ready .any ops (Reg.lst ops.size ks)).contains i && (!(Nat.beq s i) && (anc ops ops.size s i && (clB ops (Reg.lst ops.size ks) && !((Reg.lst ops.size ks).getD s true))))))) = true) (hd : o.dst = some d) (hb : Reg.inB a l = true) (hw : Reg.wantB ops a l o = true)
   (hT : T w) (hy : ∀ w', T w' → (execOp (Reg.ev a l) o).run P w' = .ok (.value v) w') (h : G2 P ops Q a s T fuel (i :: ks) ((d, v) :: l) w) : G2 P ops Q a s T (fuel + 1) ks l w := by
 simp only [Bool.and_eq_true, Bool.not_eq_true'] at hc
 obtain ⟨hs, hf, hr, h1, h2, h4, h3⟩ := hc
 refine first (v := v) hi (Region.noSelect_spec hs) (fun c a' w' hh => hQ c a' d v w' (by rw [hd] at hh; exact hh)) (fun e => by rw [e, Nat.beq_refl] at h1; cases h1) _ h2 fuel _ _ w (clB_spec h4) (Region.free_spec hi hf) (by simpa using hr) (.inl ⟨Reg.wanted_of ops a l o hb hw, fun w' hw' => ?_⟩) hT h3 ?_
 · rw [Reg.ov_eval a l hb]; exact hy w' hw'
 · rw [hd]; exact h
theorem skip (hQ : ∀ c (a : Act) (d : Nat) v w, Q (.panic c) (a.put (some d) v) w → Q (.panic c) a w) (i : Nat) (o : Oper) (d : Nat) (hi : ops[i]? = some o)
   (hc : (Region.noSelect ops && (Region.free .any ops (Reg.lst ops.size ks) i && ((Region.ready .any ops (Reg.lst ops.size ks)).contains i && (!(Nat.beq s i) && (anc ops ops.size s i && (clB ops (Reg.lst ops.size ks) && !((Reg.lst ops.size ks).getD s true))))))) = true) (hd : o.dst = some d) (hb : Reg.inB a l = true) (hw : Rcl.nowB ops a l o = true)
   (hT : T w) (h : G2 P ops Q a s T fuel (i :: ks) ((d, undef) :: l) w) : G2 P ops Q a s T (fuel + 1) ks l w := by
 simp only [Bool.and_eq_true, Bool.not_eq_true'] at hc
 obtain ⟨hs, hf, hr, h1, h2, h4, h3⟩ := hc
 refine first (v := undef) hi (Region.noSelect_spec hs) (fun c a' w' hh => hQ c a' d undef w' (by rw [hd] at hh; exact hh)) (fun e => by rw [e, Nat.beq_refl] at h1; cases h1) _ h2 fuel _ _ w (clB_spec h4) (Region.free_spec hi hf) (by simpa using hr) (.inr ⟨Rcl.unwanted_of ops a l o hb hw, rfl⟩) hT h3 ?_
 rw [hd]; exact h
theorem call (o : Oper) (d f : Nat) (xs : Array Operand) (ats : Array TypeId) (vs : Array Value) (hi : ops[s]? = some o) (hr : Region.ready .any ops (Reg.lst ops.size ks) = [s]) (hd : o.dst = some d) (hb : Reg.inB a l = true) (hw : Reg.wantB ops a l o = true)
   (hop : o.op = .call { callee := .value (.func f), args := xs, argTypes := ats }) (hvs : #[] ++ xs.map (Reg.ev a l) ++ #[] = vs) (hent : (callFunc f vs).run P w = .ok (.enter f vs) w)
   {R : Ending → World → Prop} (hc : Calls P f vs w R) (hR : ∀ e w', R e w' → ∃ v, e = .returned v ∧ G2 P ops Q a s T fuel (s :: ks) ((d, v) :: l) w') : G2 P ops Q a s T (fuel + 1) ks l w := by
 refine ⟨fun h0 => (by rw [hr] at h0; cases h0), ?_⟩
 rw [hr]
 intro j hj
 obtain rfl : j = s := by simpa using hj
 unfold wpOp
 simp only [hi]
 rw [if_pos (Reg.wanted_of ops a l o hb hw)]
 refine .inl ?_
 unfold Oper.wp
 have he : (execOp (Reg.ev a l) o).run P w = .ok (.enter f vs) w := by
   obtain ⟨dst, op, type, pos, after, guard⟩ := o
   simp only at hop
   subst hop
   show (callFunc f (#[] ++ xs.map (Reg.ev a l) ++ #[])).run P w = _
   rw [hvs]
   exact hent
 rw [Reg.ov_eval a l hb, he]
 simp only [Oper.upon]
 refine hc.mono fun e w' hr' => ?_
 obtain ⟨v, rfl, hg⟩ := hR e w' hr'
 simp only [hd]
 refine ⟨.inl ?_, hg⟩
 rw [Array.getD_eq_getD_getElem?, Array.getElem?_setIfInBounds]
 simp only [if_true]
 split <;> simp
theorem done (hr : Region.ready .any ops (Reg.lst ops.size ks) = []) (h : Q .normal (Reg.ov a l) w) : G2 P ops Q a s T fuel ks l w := by
 unfold G2
 cases fuel with
 | zero => exact ⟨hr, h⟩
 | succ f => exact ⟨fun _ => h, by rw [hr]; simp⟩
end
end Rcl
end Go.Proofs.YtemanednddhfaaaGreatDoor
namespace Go.Proofs.YtemanednddhfaaaGreatDoor
open Go.RowKit
attribute [local go_sem] Oper.semAt_some
open E (Ps Rx)
structure C6 (W : World) (b o : Nat) (k : Int) (sv kv : Value) (nu en go : Bool) : Prop where
 c0 : W.cell? ⟨b, o, none⟩ = some (.int .i64 k)
 c1 : W.cell? ⟨b, o + 1, none⟩ = some sv
 c2 : W.cell? ⟨b, o + 2, none⟩ = some kv
 c3 : W.cell? ⟨b, o + 3, none⟩ = some (.bool nu)
 c4 : W.cell? ⟨b, o + 4, none⟩ = some (.bool en)
 c5 : W.cell? ⟨b, o + 5, none⟩ = some (.bool go)
def Row (W : World) (b : Nat) : Prop := ∃ cs, W.heap[b]? = some (.cells cs 147 (0, 0))
theorem Row.frz {W : World} {b : Nat} (h : Row W b) (j : Nat) : W.frozen? ⟨b, j, none⟩ = false := by
 obtain ⟨cs, h⟩ := h
 simp [World.frozen?, h]
theorem Row.lt {W : World} {b : Nat} (h : Row W b) : b < W.heap.size := by
 obtain ⟨cs, h⟩ := h
 exact (Array.getElem?_eq_some_iff.1 h).1
theorem Row.set {W : World} {b : Nat} (h : Row W b) (p : Addr) (u : Value) : Row (W.setCell p u) b := by
 obtain ⟨cs, h⟩ := h
 by_cases hp : b = p.block
 · subst hp
   exact ⟨_, by simp [World.setCell, Array.getElem?_modify, h]; rfl⟩
 · exact ⟨cs, (Below.heap_setCell _ _ _ _ hp).trans h⟩
theorem cell_set_same {W : World} {b j : Nat} {u v : Value} (h : W.cell? ⟨b, j, none⟩ = some u) : (W.setCell ⟨b, j, none⟩ v).cell? ⟨b, j, none⟩ = some v := by
 simp only [World.cell?] at h ⊢
 cases hb : W.heap[b]? with
 | none => rw [hb] at h; simp at h
 | some o =>
   rw [hb] at h
   cases o with
   | cells cs t f =>
     have hj : j < cs.size := by
       simp only at h
       exact (Array.getElem?_eq_some_iff.1 h).1
     simp [World.setCell, Array.getElem?_modify, hb, hj]
   | _ => simp at h
theorem cell_set_other {W : World} {b j b' j' : Nat} {v : Value} (h : b ≠ b' ∨ j ≠ j') : (W.setCell ⟨b, j, none⟩ v).cell? ⟨b', j', none⟩ = W.cell? ⟨b', j', none⟩ := by
 by_cases hb : b' = b
 · subst hb
   have hj : j ≠ j' := h.resolve_left (by simp)
   simp only [World.cell?, World.setCell, Array.getElem?_modify]
   cases W.heap[b']? with
   | none => simp
   | some o =>
     cases o with
     | cells cs t f => simp [hj]
     | _ => simp
 · have := Below.heap_setCell W ⟨b, j, none⟩ v b' hb
   simp only [World.cell?, this]
def PR (w0 W : World) : Ps → Nat → Nat → Nat → Nat → Prop
 | .leaf k s nu en go, b, o, _, _ => (k = 1 ∨ k = 3) ∧ s.length ≤ 1000000 ∧ ∃ sp sc kp kc, C6 W b o k (.slice sp s.length sc) (.slice kp 0 kc) nu en go ∧ U.RdR w0 sp s
 | .one k a nu en go, b, o, lo, hi => (k = 6 ∨ k = 7 ∨ k = 8) ∧ ∃ sv g kc, C6 W b o k sv (.slice (some ⟨g, 0, none⟩) 1 kc) nu en go ∧ lo ≤ g ∧ g < hi ∧ Row W g ∧ PR w0 W a g 0 lo g
 | .two k x y nu en go, b, o, lo, hi => (k = 4 ∨ k = 5) ∧ ∃ sv g kc l1 h1 l2 h2, C6 W b o k sv (.slice (some ⟨g, 0, none⟩) 2 kc) nu en go ∧ lo ≤ g ∧ g < hi ∧ Row W g ∧ PR w0 W x g 0 l1 h1 ∧ PR w0 W y g 6 l2 h2 ∧ (lo ≤ l1 ∧ h1 ≤ hi ∧ (g < l1 ∨ h1 ≤ g)) ∧ (lo ≤ l2 ∧ h2 ≤ hi ∧ (g < l2 ∨ h2 ≤ g)) ∧ (h1 ≤ l2 ∨ h2 ≤ l1)
theorem C6.keep {W W' : World} {b o : Nat} {k : Int} {sv kv : Value} {nu en go : Bool} (h : C6 W b o k sv kv nu en go) (hc : ∀ j, j < 6 → W'.cell? ⟨b, o + j, none⟩ = W.cell? ⟨b, o + j, none⟩) : C6 W' b o k sv kv nu en go :=
 ⟨(hc 0 (by omega)).trans h.c0, (hc 1 (by omega)).trans h.c1, (hc 2 (by omega)).trans h.c2, (hc 3 (by omega)).trans h.c3, (hc 4 (by omega)).trans h.c4, (hc 5 (by omega)).trans h.c5⟩
theorem cell_blk {W W' : World} {b : Nat} (h : W'.heap[b]? = W.heap[b]?) (j : Nat) : W'.cell? ⟨b, j, none⟩ = W.cell? ⟨b, j, none⟩ := by simp only [World.cell?, h]
theorem PR.keep {w0 W W' : World} : ∀ {p : Ps} {b o lo hi : Nat}, PR w0 W p b o lo hi → (∀ j, j < 6 → W'.cell? ⟨b, o + j, none⟩ = W.cell? ⟨b, o + j, none⟩) → (∀ k, lo ≤ k → k < hi → W'.heap[k]? = W.heap[k]?) → PR w0 W' p b o lo hi
 | .leaf k s nu en go, b, o, lo, hi, h, hc, hb => by
   unfold PR at h ⊢
   obtain ⟨h1, h2, sp, sc, kp, kc, h3, h4⟩ := h
   exact ⟨h1, h2, sp, sc, kp, kc, h3.keep hc, h4⟩
 | .one k a nu en go, b, o, lo, hi, h, hc, hb => by
   unfold PR at h ⊢
   obtain ⟨h1, sv, g, kc, h3, h4, h5, h6, h7⟩ := h
   have hg := hb g h4 h5
   refine ⟨h1, sv, g, kc, h3.keep hc, h4, h5, ?_, PR.keep h7 (fun j _ => cell_blk hg _) (fun k hk1 hk2 => hb k hk1 (by omega))⟩
   obtain ⟨cs, h6⟩ := h6
   exact ⟨cs, hg.trans h6⟩
 | .two k x y nu en go, b, o, lo, hi, h, hc, hb => by
   unfold PR at h ⊢
   obtain ⟨h1, sv, g, kc, l1, h1', l2, h2', h3, h4, h5, h6, h7, h8, h9, h10, h11⟩ := h
   have hg := hb g h4 h5
   refine ⟨h1, sv, g, kc, l1, h1', l2, h2', h3.keep hc, h4, h5, ?_, PR.keep h7 (fun j _ => cell_blk hg _) (fun k hk1 hk2 => hb k (by omega) (by omega)), PR.keep h8 (fun j _ => cell_blk hg _) (fun k hk1 hk2 => hb k (by omega) (by omega)), h9, h10, h11⟩
   obtain ⟨cs, h6⟩ := h6
   exact ⟨cs, hg.trans h6⟩
structure Kr (b o lo hi : Nat) (W W' : World) : Prop where
 os : W'.os = W.os
 tape : W'.tape = W.tape
 output : W'.output = W.output
 size : W.heap.size ≤ W'.heap.size
 blk : ∀ k, k < W.heap.size → k ≠ b → (k < lo ∨ hi ≤ k) → W'.heap[k]? = W.heap[k]?
 cell : ∀ j, j ≠ o + 4 → j ≠ o + 5 → W'.cell? ⟨b, j, none⟩ = W.cell? ⟨b, j, none⟩
 row : ∀ k, Row W k → Row W' k
theorem Kr.refl (b o lo hi : Nat) (W : World) : Kr b o lo hi W W := ⟨rfl, rfl, rfl, Nat.le_refl _, fun _ _ _ _ => rfl, fun _ _ _ => rfl, fun _ h => h⟩
theorem Kr.trans {b o lo hi : Nat} {A B C : World} (h : Kr b o lo hi A B) (k : Kr b o lo hi B C) : Kr b o lo hi A C :=
 ⟨k.os.trans h.os, k.tape.trans h.tape, k.output.trans h.output, Nat.le_trans h.size k.size, fun i hi h1 h2 => (k.blk i (Nat.lt_of_lt_of_le hi h.size) h1 h2).trans (h.blk i hi h1 h2), fun j h1 h2 => (k.cell j h1 h2).trans (h.cell j h1 h2), fun i hr => k.row i (h.row i hr)⟩
theorem Kr.of {b o lo hi : Nat} {A B : World} (h : Below A.heap.size A B) (hb : b < A.heap.size) : Kr b o lo hi A B :=
 ⟨h.os, h.tape, h.output, h.size, fun i hi _ _ => h.block i hi, fun j _ _ => cell_blk (h.block b hb) j, fun i ⟨cs, hr⟩ => ⟨cs, (h.block i (Array.getElem?_eq_some_iff.1 hr).1).trans hr⟩⟩
theorem Kr.up {b o lo hi g o' l h : Nat} {A B : World} (k : Kr g o' l h A B) (hg : lo ≤ g ∧ g < hi) (hl : lo ≤ l) (hh : h ≤ hi) (hb : b < lo ∨ hi ≤ b) (hbs : b < A.heap.size) : Kr b o lo hi A B :=
 ⟨k.os, k.tape, k.output, k.size, fun i h1 _ h3 => k.blk i h1 (by omega) (by omega), fun j _ _ => cell_blk (k.blk b hbs (by omega) (by omega)) j, k.row⟩
theorem Kr.below {b o lo hi n : Nat} {w A B : World} (k : Kr b o lo hi A B) (h : Below n w A) (hb : n ≤ b) (hl : n ≤ lo) (hn : n ≤ A.heap.size) : Below n w B :=
 h.trans ⟨k.os, k.tape, k.output, k.size, fun i hi => k.blk i (by omega) (by omega) (by omega)⟩
theorem PR.other {w0 W W' : World} {p : Ps} {b o lo hi b' o' lo' hi' : Nat} (h : PR w0 W p b o lo hi) (k : Kr b' o' lo' hi' W W') (hb : b < W.heap.size) (hh : hi ≤ W.heap.size) (h1 : b < lo' ∨ hi' ≤ b) (h2 : b ≠ b' ∨ o + 5 < o' + 4 ∨ o' + 5 < o) (h3 : hi ≤ lo' ∨ hi' ≤ lo) (h4 : b' < lo ∨ hi ≤ b') : PR w0 W' p b o lo hi := by
 refine h.keep (fun j hj => ?_) (fun i hi1 hi2 => k.blk i (by omega) (by omega) (by omega))
 by_cases he : b = b'
 · subst he; exact k.cell _ (by omega) (by omega)
 · exact cell_blk (k.blk b hb he h1) _
structure Top (b o : Nat) (en go : Bool) (W V : World) : Prop where
 c4 : V.cell? ⟨b, o + 4, none⟩ = some (.bool en)
 c5 : V.cell? ⟨b, o + 5, none⟩ = some (.bool go)
 cell : ∀ j, j ≠ o + 4 → j ≠ o + 5 → V.cell? ⟨b, j, none⟩ = W.cell? ⟨b, j, none⟩
 blk : ∀ k, k ≠ b → V.heap[k]? = W.heap[k]?
 row : ∀ k, Row W k → Row V k
 os : V.os = W.os
 tape : V.tape = W.tape
 output : V.output = W.output
 size : V.heap.size = W.heap.size
theorem Top.refl {b o : Nat} {en go : Bool} {W : World} (h4 : W.cell? ⟨b, o + 4, none⟩ = some (.bool en)) (h5 : W.cell? ⟨b, o + 5, none⟩ = some (.bool go)) : Top b o en go W W :=
 ⟨h4, h5, fun _ _ _ => rfl, fun _ _ => rfl, fun _ h => h, rfl, rfl, rfl, rfl⟩
theorem Top.set4 {b o : Nat} {en go : Bool} {W V : World} (h : Top b o en go W V) (e : Bool) : Top b o e go W (V.setCell ⟨b, o + 4, none⟩ (.bool e)) :=
 ⟨cell_set_same h.c4, (cell_set_other (.inr (by omega))).trans h.c5, fun j h1 h2 => (cell_set_other (.inr (by omega))).trans (h.cell j h1 h2), fun k hk => (Below.heap_setCell _ _ _ _ hk).trans (h.blk k hk), fun k hr => (h.row k hr).set _ _, h.os, h.tape, h.output, by rw [← h.size]; simp [World.setCell]⟩
theorem Top.set5 {b o : Nat} {en go : Bool} {W V : World} (h : Top b o en go W V) (e : Bool) : Top b o en e W (V.setCell ⟨b, o + 5, none⟩ (.bool e)) :=
 ⟨(cell_set_other (.inr (by omega))).trans h.c4, cell_set_same h.c5, fun j h1 h2 => (cell_set_other (.inr (by omega))).trans (h.cell j h1 h2), fun k hk => (Below.heap_setCell _ _ _ _ hk).trans (h.blk k hk), fun k hr => (h.row k hr).set _ _, h.os, h.tape, h.output, by rw [← h.size]; simp [World.setCell]⟩
theorem Top.kr {b o lo hi : Nat} {en go : Bool} {W V : World} (h : Top b o en go W V) : Kr b o lo hi W V :=
 ⟨h.os, h.tape, h.output, Nat.le_of_eq h.size.symm, fun k _ hk _ => h.blk k hk, h.cell, h.row⟩
theorem Top.c6 {b o : Nat} {en go en0 go0 nu : Bool} {k : Int} {sv kv : Value} {W V : World} (h : Top b o en go W V) (c : C6 W b o k sv kv nu en0 go0) : C6 V b o k sv kv nu en go :=
 ⟨(h.cell o (by omega) (by omega)).trans c.c0, (h.cell (o + 1) (by omega) (by omega)).trans c.c1, (h.cell (o + 2) (by omega) (by omega)).trans c.c2, (h.cell (o + 3) (by omega) (by omega)).trans c.c3, h.c4, h.c5⟩
theorem Top.kid {b o lo hi g o' l h' : Nat} {en go : Bool} {w0 W V : World} {p : Ps} (h : Top b o en go W V) (k : PR w0 W p g o' l h') (hb : b < lo ∨ hi ≤ b) (hg : lo ≤ g ∧ g < hi) (hl : lo ≤ l) (hh : h' ≤ hi) : PR w0 V p g o' l h' :=
 k.keep (fun j _ => cell_blk (h.blk g (by omega)) _) (fun i h1 h2 => h.blk i (by omega))
theorem pr_leaf {w0 V : World} {b o lo hi : Nat} {k : Int} {s : List (Int × Int)} {nu en go : Bool} {sp kp : Option Addr} {sc kc : Nat} (hk : k = 1 ∨ k = 3) (hs : s.length ≤ 1000000) (c : C6 V b o k (.slice sp s.length sc) (.slice kp 0 kc) nu en go) (hr : U.RdR w0 sp s) : PR w0 V (.leaf k s nu en go) b o lo hi := by
 unfold PR; exact ⟨hk, hs, sp, sc, kp, kc, c, hr⟩
theorem pr_one {w0 V : World} {b o lo hi g kc : Nat} {k : Int} {a : Ps} {nu en go : Bool} {sv : Value} (hk : k = 6 ∨ k = 7 ∨ k = 8) (c : C6 V b o k sv (.slice (some ⟨g, 0, none⟩) 1 kc) nu en go) (h1 : lo ≤ g) (h2 : g < hi) (hr : Row V g) (ha : PR w0 V a g 0 lo g) : PR w0 V (.one k a nu en go) b o lo hi := by
 unfold PR; exact ⟨hk, sv, g, kc, c, h1, h2, hr, ha⟩
theorem pr_two {w0 V : World} {b o lo hi g kc l1 h1 l2 h2 : Nat} {k : Int} {x y : Ps} {nu en go : Bool} {sv : Value} (hk : k = 4 ∨ k = 5) (c : C6 V b o k sv (.slice (some ⟨g, 0, none⟩) 2 kc) nu en go) (hg1 : lo ≤ g) (hg2 : g < hi) (hr : Row V g) (hx : PR w0 V x g 0 l1 h1) (hy : PR w0 V y g 6 l2 h2) (i1 : lo ≤ l1 ∧ h1 ≤ hi ∧ (g < l1 ∨ h1 ≤ g)) (i2 : lo ≤ l2 ∧ h2 ≤ hi ∧ (g < l2 ∨ h2 ≤ g)) (i3 : h1 ≤ l2 ∨ h2 ≤ l1) : PR w0 V (.two k x y nu en go) b o lo hi := by
 unfold PR; exact ⟨hk, sv, g, kc, l1, h1, l2, h2, c, hg1, hg2, hr, hx, hy, i1, i2, i3⟩
theorem PR.tell {w0 W : World} {p : Ps} {b o lo hi : Nat} (h : PR w0 W p b o lo hi) : W.cell? ⟨b, o + 3, none⟩ = some (.bool p.nu) ∧ W.cell? ⟨b, o + 4, none⟩ = some (.bool p.en) ∧ W.cell? ⟨b, o + 5, none⟩ = some (.bool p.go) := by
 cases p <;> unfold PR at h
 · obtain ⟨_, _, _, _, _, _, c, _⟩ := h; exact ⟨c.c3, c.c4, c.c5⟩
 · obtain ⟨_, _, _, _, c, _⟩ := h; exact ⟨c.c3, c.c4, c.c5⟩
 · obtain ⟨_, _, _, _, _, _, _, _, c, _⟩ := h; exact ⟨c.c3, c.c4, c.c5⟩
theorem elemSize145 (w : World) : (sizeOf (Tryz.prog.elem 145)).run Tryz.prog w = .ok 6 w := by kernel_rfl
def AnsRp (w0 W : World) (p : Ps) (b o lo hi : Nat) (r : Int) (bg : Bool) (e : Ending) (W' : World) : Prop :=
 e = .returned (.tuple #[]) ∧ PR w0 W' (p.read r bg) b o lo hi ∧ Kr b o lo hi W W'
set_option maxRecDepth 100000 in
set_option maxHeartbeats 1000000 in
theorem read_skip (W : World) (b o : Nat) (r : Int) (hg : W.cell? ⟨b, o + 5, none⟩ = some (.bool false)) :
   Calls Tryz.prog 93 #[.pointer (some ⟨b, o, none⟩), .int .i32 r, .bool false] W fun e W' => e = .returned (.tuple #[]) ∧ W' = W := by
 go_enter Tryz.func93, Tryz.ntmps93
 go_wp2
 exact bodyPost_ret (v := .tuple #[]) (by simp [results, Tryz.results93, go_sem]) rfl ⟨rfl, rfl⟩
theorem cell_ltB {w : World} {a : Addr} {v : Value} (h : w.cell? a = some v) : a.block < w.heap.size := by
 unfold World.cell? at h
 cases hb : w.heap[a.block]? with
 | none => rw [hb] at h; simp at h
 | some o => exact (Array.getElem?_eq_some_iff.1 hb).1
set_option maxRecDepth 100000 in
set_option maxHeartbeats 1000000 in
theorem partOf_1 (sp : Option Addr) (sl sc : Nat) (W : World) :
   Calls Tryz.prog 94 #[.int .i64 1, .slice sp sl sc, .slice none 0 0] W fun e W' => e = .returned (.agg #[.int .i64 1, .slice sp sl sc, .slice none 0 0, .bool false, .bool false, .bool false]) ∧ Below W.heap.size W W' := by
 go_enter Tryz.func94, Tryz.ntmps94
 go_wp2
 exact bodyPost_ret (v := .agg #[.int .i64 1, .slice sp sl sc, .slice none 0 0, .bool false, .bool false, .bool false]) (by simp [results, Tryz.results94, go_sem]) rfl ⟨rfl, nx (al1 W _) (al1 _ _)⟩
set_option maxRecDepth 100000 in
set_option maxHeartbeats 1000000 in
theorem partOf_3 (sp : Option Addr) (sl sc : Nat) (W : World) :
   Calls Tryz.prog 94 #[.int .i64 3, .slice sp sl sc, .slice none 0 0] W fun e W' => e = .returned (.agg #[.int .i64 3, .slice sp sl sc, .slice none 0 0, .bool true, .bool false, .bool false]) ∧ Below W.heap.size W W' := by
 go_enter Tryz.func94, Tryz.ntmps94
 go_wp2
 exact bodyPost_ret (v := .agg #[.int .i64 3, .slice sp sl sc, .slice none 0 0, .bool true, .bool false, .bool false]) (by simp [results, Tryz.results94, go_sem]) rfl ⟨rfl, nx (al1 W _) (al1 _ _)⟩
set_option maxRecDepth 100000 in
set_option maxHeartbeats 1000000 in
theorem partOf_6 (sp : Option Addr) (sl sc : Nat) (g kc : Nat) (n : Bool) (W : World) (hn : W.cell? ⟨g, 3, none⟩ = some (.bool n)) :
   Calls Tryz.prog 94 #[.int .i64 6, .slice sp sl sc, .slice (some ⟨g, 0, none⟩) 1 kc] W fun e W' => e = .returned (.agg #[.int .i64 6, .slice sp sl sc, .slice (some ⟨g, 0, none⟩) 1 kc, .bool true, .bool false, .bool false]) ∧ Below W.heap.size W W' := by
 have hgl : g < W.heap.size := cell_ltB hn
 have es := elemSize145
 go_enter Tryz.func94, Tryz.ntmps94
 go_wp2
 exact bodyPost_ret (v := .agg #[.int .i64 6, .slice sp sl sc, .slice (some ⟨g, 0, none⟩) 1 kc, .bool true, .bool false, .bool false]) (by simp [results, Tryz.results94, go_sem]) rfl ⟨rfl, nx (al1 W _) (al1 _ _)⟩
set_option maxRecDepth 100000 in
set_option maxHeartbeats 1000000 in
theorem partOf_7 (sp : Option Addr) (sl sc : Nat) (g kc : Nat) (n : Bool) (W : World) (hn : W.cell? ⟨g, 3, none⟩ = some (.bool n)) :
   Calls Tryz.prog 94 #[.int .i64 7, .slice sp sl sc, .slice (some ⟨g, 0, none⟩) 1 kc] W fun e W' => e = .returned (.agg #[.int .i64 7, .slice sp sl sc, .slice (some ⟨g, 0, none⟩) 1 kc, .bool n, .bool false, .bool false]) ∧ Below W.heap.size W W' := by
 have hgl : g < W.heap.size := cell_ltB hn
 have es := elemSize145
 go_enter Tryz.func94, Tryz.ntmps94
 go_wp2
 exact bodyPost_ret (v := .agg #[.int .i64 7, .slice sp sl sc, .slice (some ⟨g, 0, none⟩) 1 kc, .bool n, .bool false, .bool false]) (by simp [results, Tryz.results94, go_sem]) rfl ⟨rfl, nx (al1 W _) (al1 _ _)⟩
set_option maxRecDepth 100000 in
set_option maxHeartbeats 1000000 in
theorem partOf_8 (sp : Option Addr) (sl sc : Nat) (g kc : Nat) (n : Bool) (W : World) (hn : W.cell? ⟨g, 3, none⟩ = some (.bool n)) :
   Calls Tryz.prog 94 #[.int .i64 8, .slice sp sl sc, .slice (some ⟨g, 0, none⟩) 1 kc] W fun e W' => e = .returned (.agg #[.int .i64 8, .slice sp sl sc, .slice (some ⟨g, 0, none⟩) 1 kc, .bool true, .bool false, .bool false]) ∧ Below W.heap.size W W' := by
 have hgl : g < W.heap.size := cell_ltB hn
 have es := elemSize145
 go_enter Tryz.func94, Tryz.ntmps94
 go_wp2
 exact bodyPost_ret (v := .agg #[.int .i64 8, .slice sp sl sc, .slice (some ⟨g, 0, none⟩) 1 kc, .bool true, .bool false, .bool false]) (by simp [results, Tryz.results94, go_sem]) rfl ⟨rfl, nx (al1 W _) (al1 _ _)⟩
set_option maxRecDepth 100000 in
set_option maxHeartbeats 1000000 in
theorem partOf_4 (sp : Option Addr) (sl sc : Nat) (g kc : Nat) (n m : Bool) (W : World) (hn : W.cell? ⟨g, 3, none⟩ = some (.bool n)) (hm : W.cell? ⟨g, 9, none⟩ = some (.bool m)) :
   Calls Tryz.prog 94 #[.int .i64 4, .slice sp sl sc, .slice (some ⟨g, 0, none⟩) 2 kc] W fun e W' => e = .returned (.agg #[.int .i64 4, .slice sp sl sc, .slice (some ⟨g, 0, none⟩) 2 kc, .bool (n && m), .bool false, .bool false]) ∧ Below W.heap.size W W' := by
 have hgl : g < W.heap.size := cell_ltB hn
 have es := elemSize145
 go_enter Tryz.func94, Tryz.ntmps94
 cases n with
 | true =>
   go_wp2
   exact bodyPost_ret (v := .agg #[.int .i64 4, .slice sp sl sc, .slice (some ⟨g, 0, none⟩) 2 kc, .bool m, .bool false, .bool false]) (by simp [results, Tryz.results94, go_sem]) rfl ⟨rfl, nx (al1 W _) (al1 _ _)⟩
 | false =>
   go_wp2
   exact bodyPost_ret (v := .agg #[.int .i64 4, .slice sp sl sc, .slice (some ⟨g, 0, none⟩) 2 kc, .bool false, .bool false, .bool false]) (by simp [results, Tryz.results94, go_sem]) rfl ⟨rfl, nx (al1 W _) (al1 _ _)⟩
set_option maxRecDepth 100000 in
set_option maxHeartbeats 1000000 in
theorem partOf_5 (sp : Option Addr) (sl sc : Nat) (g kc : Nat) (n m : Bool) (W : World) (hn : W.cell? ⟨g, 3, none⟩ = some (.bool n)) (hm : W.cell? ⟨g, 9, none⟩ = some (.bool m)) :
   Calls Tryz.prog 94 #[.int .i64 5, .slice sp sl sc, .slice (some ⟨g, 0, none⟩) 2 kc] W fun e W' => e = .returned (.agg #[.int .i64 5, .slice sp sl sc, .slice (some ⟨g, 0, none⟩) 2 kc, .bool (n || m), .bool false, .bool false]) ∧ Below W.heap.size W W' := by
 have hgl : g < W.heap.size := cell_ltB hn
 have es := elemSize145
 go_enter Tryz.func94, Tryz.ntmps94
 cases n with
 | true =>
   go_wp2
   exact bodyPost_ret (v := .agg #[.int .i64 5, .slice sp sl sc, .slice (some ⟨g, 0, none⟩) 2 kc, .bool true, .bool false, .bool false]) (by simp [results, Tryz.results94, go_sem]) rfl ⟨rfl, nx (al1 W _) (al1 _ _)⟩
 | false =>
   go_wp2
   exact bodyPost_ret (v := .agg #[.int .i64 5, .slice sp sl sc, .slice (some ⟨g, 0, none⟩) 2 kc, .bool m, .bool false, .bool false]) (by simp [results, Tryz.results94, go_sem]) rfl ⟨rfl, nx (al1 W _) (al1 _ _)⟩
end Go.Proofs.YtemanednddhfaaaGreatDoor
namespace Go.Proofs.YtemanednddhfaaaGreatDoor
open Go.RowKit
def RdK (w : World) (ao : Option Addr) (l : List (X.Tk × Nat)) : Prop :=
 ∀ i (h : i < l.length), ∃ b off, ao = some ⟨b, off, none⟩ ∧ w.cell? ⟨b, off + i * 4, none⟩ = some (.int .i64 (l[i].1.kind : Int)) ∧ w.cell? ⟨b, off + i * 4 + 1, none⟩ = some (.int .i64 (l[i].2 : Int)) ∧ w.cell? ⟨b, off + i * 4 + 2, none⟩ = some (.string ⟨l[i].1.text.toArray⟩) ∧ w.cell? ⟨b, off + i * 4 + 3, none⟩ = some (.int .i32 l[i].1.r)
theorem RdK.later {w wx : World} {ao : Option Addr} {l : List (X.Tk × Nat)} (h : RdK w ao l) (hb : Below w.heap.size w wx) : RdK wx ao l := fun i hi =>
 let ⟨b, off, e, h0, h1, h2, h3⟩ := h i hi
 ⟨b, off, e, cell_later hb h0, cell_later hb h1, cell_later hb h2, cell_later hb h3⟩
end Go.Proofs.YtemanednddhfaaaGreatDoor
