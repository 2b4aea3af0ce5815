/- MatchLaws: looks, what lies in boxes, steps of a drawn region. -/
import Derived.Test.YteaaijhppmkfeaaGreatDoorCml
import Derived.Test.YteaaijhppmkfeaaGreatDoorCnt
import Derived.BigQuiet
import Derived.Deep.WholeRow
namespace Go.Proofs.YteaaijhppmkfeaaGreatDoor
open Go.RowKit Go.Shelf
open E (Ps Rx T rxOf Vp)
theorem run_eqB (a b : Bool) (w : World) : Sem.run Tryz.prog (binOp BinOp.eql 4 (Value.bool a) (Value.bool b)) w = .ok (.bool (a == b)) w := by cases a <;> cases b <;> kernel_rfl
theorem run_len44 (a : Option Addr) (n c : Nat) (w : World) : Sem.run Tryz.prog (Builtin.len_ #[44] 3 #[Value.slice a n c]) w = .ok (.int .i64 (n : Int)) w := by kernel_rfl
attribute [local go_sem] Oper.semAt_some run_eqB run_len44
section
open U.Reg
variable {P : Program} {ops : Array Oper} {Q : Exit → Act → World → Prop} {a : Act} {B fuel : Nat} {ks : List Nat} {l : List (Nat × Value)} {w : World}
theorem tk (i d : Nat) (v : Value) {o : Oper} (hi : ops[i]? = some o) (hy : ∀ w', Below B w w' → (execOp (ev a l) o).run P w' = .ok (.value v) w') (h : G P ops Q a B fuel (i :: ks) ((d, v) :: l) w)
   (hQ : ∀ c (a : Act) (d : Nat) v w, Q (.panic c) (a.put (some d) v) w → Q (.panic c) a w := by exact fun _ _ _ _ _ h => h) (hs : Region.noSelect ops = true := by kernel_rfl) (hf : Region.free .any ops (lst ops.size ks) i = true := by kernel_rfl)
   (hr : (Region.ready .any ops (lst ops.size ks)).contains i = true := by kernel_rfl) (hd : o.dst = some d := by rfl) (hb : inB a l = true := by kernel_rfl) (hw : wantB ops a l o = true := by kernel_rfl) : G P ops Q a B (fuel + 1) ks l w :=
 U.Reg.take hQ i o d v hi hs hf hr hd hb hw hy h
theorem on (i d : Nat) (v : Value) {o : Oper} (hi : ops[i]? = some o) (h : G P ops Q a B fuel (i :: ks) ((d, v) :: l) w) (hy : (execOp (ev a l) o).run P w = .ok (.value v) w := by kernel_rfl)
   (hr : Region.ready .any ops (lst ops.size ks) = [i] := by kernel_rfl) (hd : o.dst = some d := by rfl) (hb : inB a l = true := by kernel_rfl) (hw : wantB ops a l o = true := by kernel_rfl) : G P ops Q a B (fuel + 1) ks l w :=
 U.Reg.only i o d hi hr hd hb hw ⟨v, w, B, hy, Nat.le_refl _, Below.refl _ _, h⟩
theorem cl (i d f : Nat) (vs : Array Value) {o : Oper} {xs : Array Operand} {ats : Array TypeId} (hi : ops[i]? = some o) (hop : o.op = .call { callee := .value (.func f), args := xs, argTypes := ats })
   {R : Ending → World → Prop} (hc : Calls P f vs w R) (hR : ∀ e w', R e w' → ∃ v, e = .returned v ∧ Below B w w' ∧ G P ops Q a B fuel (i :: ks) ((d, v) :: l) w') (hr : Region.ready .any ops (lst ops.size ks) = [i] := by kernel_rfl) (hd : o.dst = some d := by rfl) (hb : inB a l = true := by kernel_rfl) (hw : wantB ops a l o = true := by kernel_rfl)
   (hvs : #[] ++ xs.map (ev a l) ++ #[] = vs := by kernel_rfl) (hent : (callFunc f vs).run P w = .ok (.enter f vs) w := by kernel_rfl) : G P ops Q a B (fuel + 1) ks l w :=
 U.Reg.call i o d f xs ats vs hi hr hd hb hw hop hvs hent hc (fun e w' h => let ⟨v, h1, h2, h3⟩ := hR e w' h; ⟨v, B, h1, Nat.le_refl _, h2, h3⟩)
end
def bxN (d : ND) : Obj := .cells #[.int .i64 d.k, .int .i64 d.a, .slice d.sp d.sl d.sc, .string d.n, .slice d.kp d.kl d.kc] 26
theorem names8_any (t : T) (d : ND) (w : World) (hT : TR w (fun _ => True) t d.v) (hps : (E.pre t t).length ≤ 1000000) (hI : E.IsP t) :
   Calls Tryz.prog 24 #[d.v] w fun e W' => ∃ ao cap, ∃ n : Nat, e = .returned (.slice ao n cap) ∧ Hid (n = 0 ↔ E.PlainP t) ∧ Below w.heap.size w W' :=
 (names_any t d w hT hps hI.names).mono fun e W' ⟨u, he, ho, hb⟩ => by
   obtain ⟨ao, cap, rfl⟩ : ∃ ao cap, u = .slice ao (E.nmL t).length cap := by
     obtain ⟨_, ⟨e, h⟩ | ⟨g, cap, cur, e, _⟩⟩ := ho
     · exact ⟨none, 0, by rw [e, h]⟩
     · exact ⟨_, _, e⟩
   exact ⟨ao, cap, _, he, hide ((E.nmL_nil t).trans ⟨fun h => ⟨hI, h⟩, fun h => h.2⟩), hb⟩
theorem cells_bx {w : World} {b : Nat} {d : ND} (h : w.heap[b]? = some (bxN d)) : w.cell? ⟨b, 0, none⟩ = some (.int .i64 d.k) ∧ w.cell? ⟨b, 1, none⟩ = some (.int .i64 d.a) ∧ w.cell? ⟨b, 2, none⟩ = some (.slice d.sp d.sl d.sc) ∧ w.cell? ⟨b, 3, none⟩ = some (.string d.n) ∧ w.cell? ⟨b, 4, none⟩ = some (.slice d.kp d.kl d.kc) := cells_five h
theorem bx_later {X Y : World} {b : Nat} {o : Obj} (h : X.heap[b]? = some o) (hb : Below X.heap.size X Y) : Y.heap[b]? = some o := (hb.block _ (Array.getElem?_eq_some_iff.1 h).1).trans h
theorem tr_later {X Y : World} {t : T} {v : Value} (h : TR X (fun _ => True) t v) (hb : Below X.heap.size X Y) : TR Y (fun _ => True) t v := TR.later (fun k hk => hb.block k hk) _ h
def LooksP (t : T) : Prop := sz t ≤ 200 ∧ E.PlainP t
set_option maxRecDepth 100000 in
set_option maxHeartbeats 1000000 in
theorem looks_any (t : T) (hF : InT t) (d : ND) (w : World) (ht : Tabs w) (hd : TR w (fun _ => True) t d.v) : Calls Tryz.prog 42 #[d.v] w fun e w' => U.Told (LooksP t) e ∧ Below w.heap.size w w' := by
 have a1 := al1 w (bxN d)
 have n1 := heap_alloc_new w (bxN d)
 have h1 := few_any t hF d _ (tr_later hd a1)
 unfold bxN at h1
 unfold ND.v at h1 ⊢
 go_enter Tryz.func42, Tryz.ntmps42
 go_wp2_with fail
 with_reducible refine h1.mono ?_
 rintro e W1 ⟨rfl, hb1⟩
 have B1 := nx a1 hb1
 have m1 := bx_later n1 hb1
 clear h1 a1 n1 hb1
 by_cases hs : sz t ≤ 200
 case neg =>
   rw [decide_eq_false hs]
   go_wp2
   go_ret
   exact ⟨⟨false, rfl, ⟨fun h => (by cases h), fun h => absurd h.1 hs⟩⟩, B1⟩
 rw [decide_eq_true hs]
 have hps : (E.pre t t).length ≤ 1000000 := by unfold sz at hs; omega
 have h2 := is_any7 t d W1 (ht.later B1) (tr_later hd B1) hps hF
 obtain ⟨c0, c1, c2, c3, c4⟩ := cells_bx m1
 unfold ND.v at h2
 go_wp2_with fail
 with_reducible refine h2.mono ?_
 rintro e W2 ⟨⟨b, rfl, hb⟩, hb2⟩
 have B2 := nx B1 hb2
 have m2 := bx_later m1 hb2
 have HB := hide hb
 clear h2 m1 hb hb2 c0 c1 c2 c3 c4 B1
 cases b with
 | false =>
   have HN : Hid (¬ E.IsP t) := hide (fun h => by have := HB.out.2 h; cases this)
   clear HB
   go_wp2
   go_ret
   exact ⟨⟨false, rfl, ⟨fun h => (by cases h), fun h => absurd h.2.1 HN.out⟩⟩, B2⟩
 | true =>
   have hI := HB.out.1 rfl
   have h3 := names8_any t d W2 (tr_later hd B2) hps hI
   obtain ⟨c0, c1, c2, c3, c4⟩ := cells_bx m2
   unfold ND.v at h3
   clear HB
   go_wp2_with fail
   with_reducible refine h3.mono ?_
   rintro e W3 ⟨o3, p3, n3, rfl, HN, hb3⟩
   have B3 := nx B2 hb3
   clear h3 m2 hb3 c0 c1 c2 c3 c4 B2
   by_cases hz : n3 = 0
   · subst hz
     have HP := hide (HN.out.1 rfl)
     clear HN
     go_wp2
     go_ret
     exact ⟨⟨true, rfl, ⟨fun _ => ⟨hs, HP.out⟩, fun _ => rfl⟩⟩, B3⟩
   · have HP : Hid (¬ E.PlainP t) := hide (fun h => hz (HN.out.2 h))
     have hz1 : ((n3 : Int) == 0) = false := by rw [beq_eq_false_iff_ne]; omega
     clear HN hz
     go_wp2
     go_ret
     exact ⟨⟨false, by first | rfl | simp [hz1], ⟨fun h => (by cases h), fun h => absurd h.2 HP.out⟩⟩, B3⟩
section
open Reg
variable {P : Program} {ops : Array Oper} {Q : Exit → Act → World → Prop} {a : Act} {B fuel : Nat} {ks : List Nat} {l : List (Nat × Value)} {w : World}
theorem rtk (i d : Nat) (v : Value) {o : Oper} (hi : ops[i]? = some o) (hy : ∀ w', Below B w w' → (execOp (Reg.ev a l) o).run P w' = .ok (.value v) w') (h : Reg.G P ops Q a B fuel (i :: ks) ((d, v) :: l) w)
   (hQ : ∀ c (a : Act) (d : Nat) v w, Q (.panic c) (a.put (some d) v) w → Q (.panic c) a w := by exact fun _ _ _ _ _ h => h) (hs : Region.noSelect ops = true := by kernel_rfl) (hf : Region.free .any ops (Reg.lst ops.size ks) i = true := by kernel_rfl)
   (hr : (Region.ready .any ops (Reg.lst ops.size ks)).contains i = true := by kernel_rfl) (hd : o.dst = some d := by rfl) (hb : Reg.inB a l = true := by kernel_rfl) (hw : Reg.wantB ops a l o = true := by kernel_rfl) : Reg.G P ops Q a B (fuel + 1) ks l w :=
 Reg.take hQ i o d v hi hs hf hr hd hb hw hy h
theorem rcl (i d f : Nat) (vs : Array Value) {o : Oper} {xs : Array Operand} {ats : Array TypeId} (hi : ops[i]? = some o) (hop : o.op = .call { callee := .value (.func f), args := xs, argTypes := ats })
   {R : Ending → World → Prop} (hc : Calls P f vs w R) (hR : ∀ e w', R e w' → ∃ v, e = .returned v ∧ Below B w w' ∧ Reg.G P ops Q a B fuel (i :: ks) ((d, v) :: l) w') (hr : Region.ready .any ops (Reg.lst ops.size ks) = [i] := by kernel_rfl) (hd : o.dst = some d := by rfl) (hb : Reg.inB a l = true := by kernel_rfl) (hw : Reg.wantB ops a l o = true := by kernel_rfl)
   (hvs : #[] ++ xs.map (Reg.ev a l) ++ #[] = vs := by kernel_rfl) (hent : (callFunc f vs).run P w = .ok (.enter f vs) w := by kernel_rfl) : Reg.G P ops Q a B (fuel + 1) ks l w :=
 Reg.call i o d f xs ats vs hi hr hd hb hw hop hvs hent hc (fun e w' h => let ⟨v, h1, h2, h3⟩ := hR e w' h; ⟨v, B, h1, Nat.le_refl _, h2, h3⟩)
theorem rbc (i d f : Nat) (vs : Array Value) {o : Oper} {xs : Array Operand} {ats : Array TypeId} (hi : ops[i]? = some o) (hop : o.op = .call { callee := .value (.func f), args := xs, argTypes := ats })
   {R : Ending → World → Prop} (hc : Calls P f vs w R) (hR : ∀ e w', R e w' → ∃ v, e = .returned v ∧ Below B w w' ∧ Reg.G P ops Q a B fuel (i :: ks) ((d, v) :: l) w') (hd : o.dst = some d := by rfl) (hb : Reg.inB a l = true := by kernel_rfl) (hw : Reg.wantB ops a l o = true := by kernel_rfl)
   (hvs : #[] ++ xs.map (Reg.ev a l) ++ #[] = vs := by kernel_rfl) (hent : (callFunc f vs).run P w = .ok (.enter f vs) w := by kernel_rfl) : Reg.Br P ops Q a B fuel ks l w i :=
 Reg.brC i o d f xs ats vs hi hd hb hw hop hvs hent hc (fun e w' h => let ⟨v, h1, h2, h3⟩ := hR e w' h; ⟨v, B, h1, Nat.le_refl _, h2, h3⟩)
end
def z66 : Array Value := ((List.replicate 12 [Value.int .i64 0, .int .i64 0, .slice none 0 0, .string ⟨#[]⟩, .slice none 0 0]).flatMap id).toArray
theorem run_alloc66 {w : World} {ρ : Operand → Value} {o : Oper} (hop : o.op = .alloc 66) : (execOp ρ o).run Tryz.prog w = .ok (.value (.pointer (some ⟨w.heap.size, 0, none⟩))) (w.alloc (.cells z66 66)) := by
 obtain ⟨dst, op, type, pos, after, guard⟩ := o
 simp only at hop
 subst hop
 kernel_rfl
theorem st66 {w : World} {ρ : Operand → Value} {o : Oper} {x y : Operand} {g : Nat} {cs : Array Value} (hop : o.op = .store 66 x y) (hx : ρ x = .pointer (some ⟨g, 0, none⟩)) (hy : ρ y = .agg cs) (hg : w.heap[g]? = some (.cells z66 66)) (hs : cs.size = 60) (h1 : cs.all (·.oneCell') = true) : (execOp ρ o).run Tryz.prog w = .ok .skip (w.setRow g cs) := by
 obtain ⟨dst, op, type, pos, after, guard⟩ := o
 simp only at hop
 subst hop
 have hI : (Tryz.prog.info? 66).map (·.size) = some 60 := by kernel_rfl
 simp only [execOp, hx, hy, Instr.storeAt, Instr.sureAddr, Sem.run_bind, Sem.run_pure, Result.andThen_ok, run_storeVar_row w g 66 66 z66 cs hg (by rw [hs]; exact hI) (by rw [hs]; rfl) h1]
structure St3 (w : World) (da db dc : ND) (X : World) : Prop where
 bel : Below w.heap.size w X
 ba : X.heap[w.heap.size]? = some (bxN da)
 bb : X.heap[w.heap.size + 1]? = some (bxN db)
 bc : X.heap[w.heap.size + 1 + 1]? = some (bxN dc)
theorem St3.nx {w X Y : World} {da db dc : ND} (h : St3 w da db dc X) (hb : Below X.heap.size X Y) : St3 w da db dc Y :=
 ⟨Go.Proofs.YteaaijhppmkfeaaGreatDoor.nx h.bel hb, bx_later h.ba hb, bx_later h.bb hb, bx_later h.bc hb⟩
def ttL (a b c : T) : List T := [t2 5 a b, t2 5 b a, t2 5 a a, a, t2 4 (t2 4 a b) c, t2 4 a (t2 4 b c), t1 6 (t1 6 a), t1 6 a, t2 4 a (t2 5 b c), t2 5 (t2 4 a b) (t2 4 a c), t1 8 a, t2 5 t0 a]
def TRs (X : World) (ok : Nat → Prop) (l : List (T × ND)) : Prop := ∀ p ∈ l, TR X ok p.1 p.2.v
structure Cur (w : World) (da db dc ds : ND) (N R : Nat) (X : World) : Prop where
 s : St3 w da db dc X
 n : X.heap[N]? = some (.cells #[.int .i64 3, .int .i64 0, .slice none 0 0, .string ⟨#[]⟩, .slice none 0 0] 26)
 r : X.heap[R]? = some (bxN ds)
theorem Cur.nx {w X Y : World} {da db dc ds : ND} {N R : Nat} (h : Cur w da db dc ds N R X) (hb : Below X.heap.size X Y) : Cur w da db dc ds N R Y := ⟨h.s.nx hb, bx_later h.n hb, bx_later h.r hb⟩
def d0 : ND := ⟨3, 0, none, 0, 0, ⟨#[]⟩, none, 0, 0⟩
theorem tr_d0 (X : World) (ok : Nat → Prop) : TR X ok t0 d0.v := by
 rw [t0, TR]
 exact ⟨none, 0, none, 0, rfl, U.rdr_nil _ _, Nat.le_refl _, by rw [KR]; trivial⟩
theorem ld_bx {w : World} {ρ : Operand → Value} {o : Oper} {x : Operand} {b : Nat} {d : ND} (hop : o.op = .load 26 x) (hx : ρ x = .pointer (some ⟨b, 0, none⟩)) (h : w.heap[b]? = some (bxN d)) : (execOp ρ o).run Tryz.prog w = .ok (.value d.v) w := Reg.ldN hop hx h
end Go.Proofs.YteaaijhppmkfeaaGreatDoor
