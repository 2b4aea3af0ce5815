/- Joined: Plm. -/
import Derived.Test.YtgngaldoemopjaaGreatDoorFPlv
namespace Go.Proofs.YtgngaldoemopjaaGreatDoor
open Go.RowKit Go.Shelf
attribute [local go_sem] Oper.semAt_some
def EB (w : World) (b : Nat) (x : PA.En) : Prop := w.heap[b]? = some (.cells #[.int .u64 (x.f : Int), .int .u64 (x.l : Int), .bool x.n] 87)
def zE : PA.En := ⟨0, 0, false⟩
theorem Reg.stE {w : World} {ρ : Operand → Value} {o : Oper} {x y : Operand} {b : Nat} {e z : PA.En} (hop : o.op = .store 87 x y) (hx : ρ x = .pointer (some ⟨b, 0, none⟩)) (hy : ρ y = encE e) (h : EB w b z) : (execOp ρ o).run Tryz.prog w = .ok .skip (put3 w b e) := by
 obtain ⟨dst, op, type, pos, after, guard⟩ := o
 simp only at hop
 subst hop
 unfold EB at h
 have c0 : w.cell? ⟨b, 0, none⟩ = some (.int .u64 (z.f : Int)) := by simp [World.cell?, h]
 have c1 : w.cell? ⟨b, 1, none⟩ = some (.int .u64 (z.l : Int)) := by simp [World.cell?, h]
 have c2 : w.cell? ⟨b, 2, none⟩ = some (.bool z.n) := by simp [World.cell?, h]
 have f : ∀ j, w.frozen? ⟨b, j, none⟩ = false := fun j => by simp [World.frozen?, h]
 have hsz := Tryz.sizeOf87 w
 unfold encE at hy
 simp [execOp, hx, hy, Instr.storeAt, Instr.sureAddr, storeVar, Sem.run_bind, hsz, Result.andThen, go_sem, c0, c1, c2, f]
 rfl
theorem Reg.alE {w : World} {ρ : Operand → Value} {o : Oper} (hop : o.op = .alloc 87) : (execOp ρ o).run Tryz.prog w = .ok (.value (.pointer (some ⟨w.heap.size, 0, none⟩))) (w.alloc (.cells #[.int .u64 0, .int .u64 0, .bool false] 87)) := by
 obtain ⟨dst, op, type, pos, after, guard⟩ := o
 simp only at hop
 subst hop
 simp [execOp, go_sem]
theorem Reg.faN4 {w : World} {ρ : Operand → Value} {o : Oper} {x : Operand} {b off : Nat} (hop : o.op = .fieldAddr 25 x 4) (hx : ρ x = .pointer (some ⟨b, off, none⟩)) : (execOp ρ o).run Tryz.prog w = .ok (.value (.pointer (some ⟨b, off + 4, none⟩))) w := by
 obtain ⟨dst, op, type, pos, after, guard⟩ := o
 simp only at hop
 subst hop
 simp [execOp, hx, go_sem]
theorem elemSizeN (w : World) : (sizeOf (Tryz.prog.elem 23)).run Tryz.prog w = .ok 5 w := by kernel_rfl
theorem Reg.ldM {w : World} {ρ : Operand → Value} {o : Oper} {x : Operand} {b off : Nat} {v : Value} (hop : o.op = .load 25 x) (hx : ρ x = .pointer (some ⟨b, off, none⟩)) (h : Cells5 w b off v) : (execOp ρ o).run Tryz.prog w = .ok (.value v) w := by
 obtain ⟨c0, c1, c2, c3, c4, rfl, h0, h1, h2, h3, h4⟩ := h
 have hc : w.rangeAt b off [c0, c1, c2, c3, c4] := by
   intro j v hj
   match j, hj with
   | 0, hj => obtain rfl : c0 = v := by simpa using hj
              exact h0
   | 1, hj => obtain rfl : c1 = v := by simpa using hj
              exact h1
   | 2, hj => obtain rfl : c2 = v := by simpa using hj
              exact h2
   | 3, hj => obtain rfl : c3 = v := by simpa using hj
              exact h3
   | 4, hj => obtain rfl : c4 = v := by simpa using hj
              exact h4
 exact Reg.ld hop hx hc Tryz.underlying25 rfl (by kernel_rfl)
set_option maxRecDepth 100000 in
theorem Reg.ixN {w : World} {ρ : Operand → Value} {o : Oper} {x y : Operand} {b off n c k e : Nat} (hop : o.op = .indexAddr 23 x y) (hx : ρ x = .slice (some ⟨b, off, none⟩) n c) (hy : ρ y = .int .i64 (k : Int)) (hk : k < n) (he : off + k * 5 = e) : (execOp ρ o).run Tryz.prog w = .ok (.value (.pointer (some ⟨b, e, none⟩))) w := by
 rw [← he]
 exact U.Reg.ix hop hx hy hk Tryz.underlying23 (elemSizeN w)
def AutoAt (w : World) (B A : Nat) (x : PA.En) (st : List PA.Pl) : Prop := ∃ v qs, qs.map (·.1) = st ∧ AutoW w B A v qs x
theorem AutoAt.later {w W : World} {B A : Nat} {x : PA.En} {st : List PA.Pl} (h : AutoAt w B A x st) (hb : Below w.heap.size w W) : AutoAt W B A x st := let ⟨v, qs, e, h⟩ := h; ⟨v, qs, e, h.later hb⟩
theorem AutoAt.put3 {w : World} {B A b : Nat} {x y z : PA.En} {st : List PA.Pl} (h : AutoAt w B A x st) (hb : EB w b z) : AutoAt (put3 w b y) B A x st := let ⟨v, qs, e, h⟩ := h; ⟨v, qs, e, h.put3 hb⟩
theorem AutoAt.drew {w : World} {B A : Nat} {x : PA.En} {st : List PA.Pl} (h : AutoAt w B A x st) : AutoAt w.drew B A x st := let ⟨v, qs, e, h⟩ := h; ⟨v, qs, e, h.keep fun _ _ => rfl⟩
theorem AutoAt.lt {w : World} {B A : Nat} {x : PA.En} {st : List PA.Pl} (h : AutoAt w B A x st) : B ≤ A ∧ A < w.heap.size := let ⟨_, _, _, h⟩ := h; ⟨h.le, (Array.getElem?_eq_some_iff.1 h.box).1⟩
theorem PF.drew {n A : Nat} {w W : World} (h : PF n A w W) : PF n A w W.drew := ⟨h.os, h.tape, h.output, h.size, h.low, h.keep⟩
structure Fc (w1 : World) (B A : Nat) (x : PA.En) (st0 st1 st2 : List PA.Pl) (e1 e2 : PA.En) (l5 l11 l12 l13 l14 l15 : Bool) (v5 v11 v12 v13 : Value) (w : World) : Prop where
 au : AutoAt w B A x (if l11 then st2 else if l5 then st1 else st0)
 r1 : l5 = true → v5 = encE e1
 r2 : l11 = true → v11 = encE e2
 pf : PF B A w1 w
 bx : l12 = true → ∃ b, v12 = .pointer (some ⟨b, 0, none⟩) ∧ w1.heap.size ≤ b ∧ EB w b (if l14 then e1 else zE)
 bz : l13 = true → ∃ b, v13 = .pointer (some ⟨b, 0, none⟩) ∧ w1.heap.size ≤ b ∧ EB w b (if l15 then e2 else zE)
 ne : l12 = true → l13 = true → v12 ≠ v13
 c1 : l11 = true → l5 = true
 c2 : l14 = true → l12 = true
 c3 : l15 = true → l13 = true
theorem EB.pf {n A b : Nat} {w W : World} {x : PA.En} (h : EB w b x) (hp : PF n A w W) (hA : b ≠ A) : EB W b x := hp.at_ h hA (by decide)
theorem EB.later {b : Nat} {w W : World} {x : PA.En} (h : EB w b x) (hb : Below w.heap.size w W) : EB W b x := (hb.block b (Array.getElem?_eq_some_iff.1 h).1).trans h
theorem EB.lt {b : Nat} {w : World} {x : PA.En} (h : EB w b x) : b < w.heap.size := (Array.getElem?_eq_some_iff.1 h).1
section
variable {w1 w W : World} {B A : Nat} {x : PA.En} {st0 st1 st2 : List PA.Pl} {e1 e2 : PA.En} {l5 l11 l12 l13 l14 l15 : Bool} {v5 v11 v12 v13 : Value}
theorem Fc.call1 (h : Fc w1 B A x st0 st1 st2 e1 e2 l5 l11 l12 l13 l14 l15 v5 v11 v12 v13 w) (h5 : l5 = false) (hA : A < w1.heap.size) (ha : AutoAt W B A x st1) (hp : PF B A w W) : Fc w1 B A x st0 st1 st2 e1 e2 true l11 l12 l13 l14 l15 (encE e1) v11 v12 v13 W := by
 have h11 : l11 = false := by
   cases hl : l11 with
   | false => rfl
   | true => have := h.c1 hl; rw [h5] at this; cases this
 subst h11
 exact ⟨ha, fun _ => rfl, fun e => (by cases e), h.pf.trans hp, fun e => by obtain ⟨b, e1, e2, e3⟩ := h.bx e; exact ⟨b, e1, e2, e3.pf hp (by omega)⟩, fun e => by obtain ⟨b, e1, e2, e3⟩ := h.bz e; exact ⟨b, e1, e2, e3.pf hp (by omega)⟩, h.ne, fun e => (by cases e), h.c2, h.c3⟩
theorem Fc.call2 (h : Fc w1 B A x st0 st1 st2 e1 e2 l5 l11 l12 l13 l14 l15 v5 v11 v12 v13 w) (h5 : l5 = true) (hA : A < w1.heap.size) (ha : AutoAt W B A x st2) (hp : PF B A w W) : Fc w1 B A x st0 st1 st2 e1 e2 l5 true l12 l13 l14 l15 v5 (encE e2) v12 v13 W :=
 ⟨ha, h.r1, fun _ => rfl, h.pf.trans hp, fun e => by obtain ⟨b, e1, e2, e3⟩ := h.bx e; exact ⟨b, e1, e2, e3.pf hp (by omega)⟩, fun e => by obtain ⟨b, e1, e2, e3⟩ := h.bz e; exact ⟨b, e1, e2, e3.pf hp (by omega)⟩, h.ne, fun _ => h5, h.c2, h.c3⟩
theorem Fc.box1 (h : Fc w1 B A x st0 st1 st2 e1 e2 l5 l11 l12 l13 l14 l15 v5 v11 v12 v13 w) (h12 : l12 = false) (hB : B ≤ w1.heap.size) : Fc w1 B A x st0 st1 st2 e1 e2 l5 l11 true l13 l14 l15 v5 v11 (.pointer (some ⟨w.heap.size, 0, none⟩)) v13 (w.alloc (.cells #[.int .u64 0, .int .u64 0, .bool false] 87)) := by
 have h14 : l14 = false := by
   cases hl : l14 with
   | false => rfl
   | true => have := h.c2 hl; rw [h12] at this; cases this
 subst h14
 have hb := al1 w (.cells #[.int .u64 0, .int .u64 0, .bool false] 87)
 exact ⟨h.au.later hb, h.r1, h.r2, h.pf.trans (PF.of hb (Nat.le_trans hB h.pf.size)), fun _ => ⟨_, rfl, h.pf.size, heap_alloc_new _ _⟩, fun e => by obtain ⟨b, e1, e2, e3⟩ := h.bz e; exact ⟨b, e1, e2, e3.later hb⟩, fun _ e h' => by
   obtain ⟨b, e1, _, e3⟩ := h.bz e
   have := e3.lt
   rw [e1] at h'
   exact absurd h' (by simp <;> omega), h.c1, fun e => (by cases e), h.c3⟩
theorem Fc.box2 (h : Fc w1 B A x st0 st1 st2 e1 e2 l5 l11 l12 l13 l14 l15 v5 v11 v12 v13 w) (h13 : l13 = false) (hB : B ≤ w1.heap.size) : Fc w1 B A x st0 st1 st2 e1 e2 l5 l11 l12 true l14 l15 v5 v11 v12 (.pointer (some ⟨w.heap.size, 0, none⟩)) (w.alloc (.cells #[.int .u64 0, .int .u64 0, .bool false] 87)) := by
 have h15 : l15 = false := by
   cases hl : l15 with
   | false => rfl
   | true => have := h.c3 hl; rw [h13] at this; cases this
 subst h15
 have hb := al1 w (.cells #[.int .u64 0, .int .u64 0, .bool false] 87)
 exact ⟨h.au.later hb, h.r1, h.r2, h.pf.trans (PF.of hb (Nat.le_trans hB h.pf.size)), fun e => by obtain ⟨b, e1, e2, e3⟩ := h.bx e; exact ⟨b, e1, e2, e3.later hb⟩, fun _ => ⟨_, rfl, h.pf.size, heap_alloc_new _ _⟩, fun e _ h' => by
   obtain ⟨b, e1, _, e3⟩ := h.bx e
   have := e3.lt
   rw [e1] at h'
   exact absurd h' (by simp <;> omega), h.c1, h.c2, fun e => (by cases e)⟩
theorem Fc.put1 (h : Fc w1 B A x st0 st1 st2 e1 e2 l5 l11 l12 l13 l14 l15 v5 v11 v12 v13 w) (h12 : l12 = true) (hB : B ≤ w1.heap.size) {b : Nat} (hv : v12 = .pointer (some ⟨b, 0, none⟩)) : Fc w1 B A x st0 st1 st2 e1 e2 l5 l11 l12 l13 true l15 v5 v11 v12 v13 (put3 w b e1) := by
 obtain ⟨b', hb1, hb2, hb3⟩ := h.bx h12
 rw [hv] at hb1
 obtain rfl : b = b' := by simpa using hb1
 exact ⟨h.au.put3 hb3, h.r1, h.r2, h.pf.put3 hB hb2, fun _ => ⟨b, hv, hb2, put3_box hb3⟩, fun e => by
   obtain ⟨c, k1, k2, k3⟩ := h.bz e
   refine ⟨c, k1, k2, (put3_other ?_).trans k3⟩
   rintro rfl
   exact h.ne h12 e (hv.trans k1.symm), h.ne, h.c1, fun _ => h12, h.c3⟩
theorem Fc.put2 (h : Fc w1 B A x st0 st1 st2 e1 e2 l5 l11 l12 l13 l14 l15 v5 v11 v12 v13 w) (h13 : l13 = true) (hB : B ≤ w1.heap.size) {b : Nat} (hv : v13 = .pointer (some ⟨b, 0, none⟩)) : Fc w1 B A x st0 st1 st2 e1 e2 l5 l11 l12 l13 l14 true v5 v11 v12 v13 (put3 w b e2) := by
 obtain ⟨b', hb1, hb2, hb3⟩ := h.bz h13
 rw [hv] at hb1
 obtain rfl : b = b' := by simpa using hb1
 exact ⟨h.au.put3 hb3, h.r1, h.r2, h.pf.put3 hB hb2, fun e => by
   obtain ⟨c, k1, k2, k3⟩ := h.bx e
   refine ⟨c, k1, k2, (put3_other ?_).trans k3⟩
   rintro rfl
   exact h.ne e h13 (k1.trans hv.symm), fun _ => ⟨b, hv, hb2, put3_box hb3⟩, h.ne, h.c1, h.c2, fun _ => h13⟩
end
def cstE (A b3 kb koff kl kc : Nat) (n0 n1 : Value) (j : Nat) : Option Value := ([some (.pointer (some ⟨A, 0, none⟩)), some (.pointer (some ⟨b3, 4, none⟩)), some (.slice (some ⟨kb, koff, none⟩) kl kc), some (.pointer (some ⟨kb, koff, none⟩)), some n0, none, some (.pointer (some ⟨A, 0, none⟩)), some (.pointer (some ⟨b3, 4, none⟩)), some (.slice (some ⟨kb, koff, none⟩) kl kc), some (.pointer (some ⟨kb, koff + 5, none⟩)), some n1] : List (Option Value)).getD j none
theorem updN (f : Nat → Value) {i j : Nat} (v : Value) (h : j ≠ i) : Iv.upd f i v j = f j := if_neg h
theorem updS (f : Nat → Value) (i : Nat) (v : Value) : Iv.upd f i v i = v := if_pos rfl
theorem noth {w1 w : World} {B A : Nat} {x : PA.En} {st0 st1 st2 : List PA.Pl} {e1 e2 : PA.En} {L : Array Bool} {f : Nat → Value} {i : Nat} {v : Value} (h : Fc w1 B A x st0 st1 st2 e1 e2 (L.getD 5 false) (L.getD 11 false) (L.getD 12 false) (L.getD 13 false) (L.getD 14 false) (L.getD 15 false) (f 5) (f 11) (f 12) (f 13) w) (hi : i ≠ 5 ∧ i ≠ 11 ∧ i ≠ 12 ∧ i ≠ 13 ∧ i ≠ 14 ∧ i ≠ 15) :
   Fc w1 B A x st0 st1 st2 e1 e2 ((L.setIfInBounds i true).getD 5 false) ((L.setIfInBounds i true).getD 11 false) ((L.setIfInBounds i true).getD 12 false) ((L.setIfInBounds i true).getD 13 false) ((L.setIfInBounds i true).getD 14 false) ((L.setIfInBounds i true).getD 15 false) (Iv.upd f i v 5) (Iv.upd f i v 11) (Iv.upd f i v 12) (Iv.upd f i v 13) w := by
 obtain ⟨h5, h11, h12, h13, h14, h15⟩ := hi
 rw [getD_set_ne false h5, getD_set_ne false h11, getD_set_ne false h12, getD_set_ne false h13, getD_set_ne false h14, getD_set_ne false h15, updN f v (Ne.symm h5), updN f v (Ne.symm h11), updN f v (Ne.symm h12), updN f v (Ne.symm h13)]
 exact h
theorem setL {L : Array Bool} {i : Nat} (h : i < L.size) (d : Bool) : (L.setIfInBounds i true).getD i d = true := by simp [Array.getD_eq_getD_getElem?, h]
def opsC : Array Oper := #[{ dst := some 19, op := Go.Op.move (Go.Operand.tmp 0), type := 52, pos := "ends.go:30", after := #[], guard := none }, { dst := some 20, op := Go.Op.fieldAddr 25 (Go.Operand.tmp 3) 4, type := 0, pos := "ends.go:30", after := #[], guard := none }, { dst := some 21, op := Go.Op.load 23 (Go.Operand.tmp 20), type := 23, pos := "ends.go:30", after := #[{ on := 1, ground := Go.Ground.data }], guard := none }, { dst := some 22, op := Go.Op.indexAddr 23 (Go.Operand.tmp 21) (Go.Operand.const (Go.Value.int Go.IntKind.i64 0)), type := 0, pos := "ends.go:30", after := #[{ on := 2, ground := Go.Ground.data }], guard := none }, { dst := some 23, op := Go.Op.load 25 (Go.Operand.tmp 22), type := 25, pos := "ends.go:30", after := #[{ on := 3, ground := Go.Ground.data }], guard := none }, { dst := some 24, op := Go.Op.call { callee := Go.Callee.value (Go.Operand.func 37), args := #[Go.Operand.tmp 19, Go.Operand.tmp 23], argTypes := #[52, 25] }, type := 87, pos := "ends.go:30", after := #[{ on := 0, ground := Go.Ground.data }, { on := 4, ground := Go.Ground.data }], guard := none }, { dst := some 25, op := Go.Op.move (Go.Operand.tmp 0), type := 52, pos := "ends.go:30", after := #[], guard := none }, { dst := some 26, op := Go.Op.fieldAddr 25 (Go.Operand.tmp 3) 4, type := 0, pos := "ends.go:30", after := #[], guard := none }, { dst := some 27, op := Go.Op.load 23 (Go.Operand.tmp 26), type := 23, pos := "ends.go:30", after := #[{ on := 7, ground := Go.Ground.data }], guard := none }, { dst := some 28, op := Go.Op.indexAddr 23 (Go.Operand.tmp 27) (Go.Operand.const (Go.Value.int Go.IntKind.i64 1)), type := 0, pos := "ends.go:30", after := #[{ on := 8, ground := Go.Ground.data }], guard := none }, { dst := some 29, op := Go.Op.load 25 (Go.Operand.tmp 28), type := 25, pos := "ends.go:30", after := #[{ on := 9, ground := Go.Ground.data }], guard := none }, { dst := some 30, op := Go.Op.call { callee := Go.Callee.value (Go.Operand.func 37), args := #[Go.Operand.tmp 25, Go.Operand.tmp 29], argTypes := #[52, 25] }, type := 87, pos := "ends.go:30", after := #[{ on := 6, ground := Go.Ground.data }, { on := 10, ground := Go.Ground.data }, { on := 5, ground := Go.Ground.chain }], guard := none }, { dst := some 5, op := Go.Op.alloc 87, type := 0, pos := "ends.go:30", after := #[], guard := none }, { dst := some 6, op := Go.Op.alloc 87, type := 0, pos := "ends.go:30", after := #[], guard := none }, { dst := none, op := Go.Op.store 87 (Go.Operand.tmp 5) (Go.Operand.tmp 24), type := 0, pos := "ends.go:30", after := #[{ on := 12, ground := Go.Ground.data }, { on := 5, ground := Go.Ground.data }, { on := 11, ground := Go.Ground.chain }, { on := 0, ground := Go.Ground.phase }, { on := 1, ground := Go.Ground.phase }, { on := 2, ground := Go.Ground.phase }, { on := 3, ground := Go.Ground.phase }, { on := 4, ground := Go.Ground.phase }, { on := 5, ground := Go.Ground.phase }, { on := 6, ground := Go.Ground.textOnly Go.Departure.lateStores }, { on := 7, ground := Go.Ground.textOnly Go.Departure.lateStores }, { on := 8, ground := Go.Ground.textOnly Go.Departure.lateStores }, { on := 9, ground := Go.Ground.textOnly Go.Departure.lateStores }, { on := 10, ground := Go.Ground.textOnly Go.Departure.lateStores }, { on := 11, ground := Go.Ground.textOnly Go.Departure.lateStoresUnsure }, { on := 12, ground := Go.Ground.phase }, { on := 13, ground := Go.Ground.phase }], guard := none }, { dst := none, op := Go.Op.store 87 (Go.Operand.tmp 6) (Go.Operand.tmp 30), type := 0, pos := "ends.go:30", after := #[{ on := 13, ground := Go.Ground.data }, { on := 11, ground := Go.Ground.data }, { on := 14, ground := Go.Ground.chain }, { on := 0, ground := Go.Ground.phase }, { on := 1, ground := Go.Ground.phase }, { on := 2, ground := Go.Ground.phase }, { on := 3, ground := Go.Ground.phase }, { on := 4, ground := Go.Ground.phase }, { on := 5, ground := Go.Ground.phase }, { on := 6, ground := Go.Ground.phase }, { on := 7, ground := Go.Ground.phase }, { on := 8, ground := Go.Ground.phase }, { on := 9, ground := Go.Ground.phase }, { on := 10, ground := Go.Ground.phase }, { on := 11, ground := Go.Ground.phase }, { on := 12, ground := Go.Ground.phase }, { on := 13, ground := Go.Ground.phase }, { on := 14, ground := Go.Ground.phase }], guard := none }]
def dsC : List (Option Nat) := [some 19, some 20, some 21, some 22, some 23, some 24, some 25, some 26, some 27, some 28, some 29, some 30, some 5, some 6, none, none]
set_option maxRecDepth 100000 in
set_option maxHeartbeats 4000000 in
theorem regC {Q : Exit → Act → World → Prop} (a0 : Act) (w1 : World) {B A b3 kb koff kl kc : Nat} {x : PA.En} {st0 st1 st2 : List PA.Pl} {e1 e2 : PA.En} {u0 u1 u2 u3 n0 n1 : Value} (hsz : a0.tmps.size = 86) (h0 : a0.tmps.getD 0 undef = .pointer (some ⟨A, 0, none⟩)) (h3 : a0.tmps.getD 3 undef = .pointer (some ⟨b3, 0, none⟩))
   (hbox : w1.heap[b3]? = some (.cells #[u0, u1, u2, u3, .slice (some ⟨kb, koff, none⟩) kl kc] 25)) (hkl : 2 ≤ kl) (hkb : kb < B) (hk0 : Cells5 w1 kb koff n0) (hk1 : Cells5 w1 kb (koff + 5) n1) (hau : AutoAt w1 B A x st0)
   (hc1 : ∀ w, AutoAt w B A x st0 → PF B A w1 w → Calls Tryz.prog 37 #[.pointer (some ⟨A, 0, none⟩), n0] w fun e W => e = .returned (encE e1) ∧ AutoAt W B A x st1 ∧ PF B A w W)
   (hc2 : ∀ w, AutoAt w B A x st1 → PF B A w1 w → Calls Tryz.prog 37 #[.pointer (some ⟨A, 0, none⟩), n1] w fun e W => e = .returned (encE e2) ∧ AutoAt W B A x st2 ∧ PF B A w W)
   (h : ∀ bx bz W, bx ≠ bz → w1.heap.size ≤ bx → w1.heap.size ≤ bz → EB W bx e1 → EB W bz e2 → AutoAt W B A x st2 → PF B A w1 W → Q .normal (Reg.ov a0 [(19, .pointer (some ⟨A, 0, none⟩)), (20, .pointer (some ⟨b3, 4, none⟩)), (21, .slice (some ⟨kb, koff, none⟩) kl kc), (22, .pointer (some ⟨kb, koff, none⟩)), (23, n0), (24, encE e1), (25, .pointer (some ⟨A, 0, none⟩)), (26, .pointer (some ⟨b3, 4, none⟩)), (27, .slice (some ⟨kb, koff, none⟩) kl kc), (28, .pointer (some ⟨kb, koff + 5, none⟩)), (29, n1), (30, encE e2), (5, .pointer (some ⟨bx, 0, none⟩)), (6, .pointer (some ⟨bz, 0, none⟩))]) W) :
   (Code.region 5 opsC true).wp Tryz.prog Q a0 w1 := by
 obtain ⟨hBA, hAl⟩ := hau.lt
 have hB : B ≤ w1.heap.size := by omega
 have hb3l := (Array.getElem?_eq_some_iff.1 hbox).1
 have hb3A : b3 ≠ A := by
   rintro rfl
   obtain ⟨_, _, _, ha⟩ := hau
   rw [ha.box] at hbox
   cases hbox
 have hn : (dsC.filterMap id).Nodup := by decide
 obtain ⟨cst, hcst⟩ : ∃ cst, cstE A b3 kb koff kl kc n0 n1 = cst := ⟨_, rfl⟩
 have cput : ∀ {L : Array Bool} {f : Nat → Value} (i : Nat) (v : Value), (∀ j c, cst j = some c → L.getD j false = true → f j = c) → (∀ c, cst i = some c → v = c) → ∀ j c, cst j = some c → (L.setIfInBounds i true).getD j false = true → Iv.upd f i v j = c := by
   intro L f i v h1 h2 j c hj hl
   unfold Iv.upd
   by_cases e : j = i
   · subst e; rw [if_pos rfl]; exact h2 c hj
   · rw [if_neg e]
     rw [getD_set_ne false (Ne.symm e)] at hl
     exact h1 j c hj hl
 have cskip : ∀ {L : Array Bool} {f : Nat → Value} (i : Nat), (∀ j c, cst j = some c → L.getD j false = true → f j = c) → cst i = none → ∀ j c, cst j = some c → (L.setIfInBounds i true).getD j false = true → f j = c := by
   intro L f i h1 h2 j c hj hl
   have e : i ≠ j := by rintro rfl; rw [h2] at hj; cases hj
   rw [getD_set_ne false e] at hl
   exact h1 j c hj hl
 refine Iv.start (fun L a w => L.size = 16 ∧ ∃ f, Iv.Sl a0 dsC L f a ∧ (∀ j c, cst j = some c → L.getD j false = true → f j = c) ∧ Fc w1 B A x st0 st1 st2 e1 e2 (L.getD 5 false) (L.getD 11 false) (L.getD 12 false) (L.getD 13 false) (L.getD 14 false) (L.getD 15 false) (f 5) (f 11) (f 12) (f 13) w) (by kernel_rfl) ?step (by kernel_rfl) (fun L a w hi => hi.1) ?done ⟨rfl, fun _ => undef, Iv.Sl.start _ _ _ _, fun j c _ hl => ?z, ⟨hau.drew, fun e => (by cases e), fun e => (by cases e), (PF.refl _ _ _).drew, fun e => (by cases e), fun e => (by cases e), fun e => (by cases e), fun e => (by cases e), fun e => (by cases e), fun e => (by cases e)⟩⟩
 case z =>
   rw [Array.getD_eq_getD_getElem?, Array.getElem?_replicate] at hl
   split at hl <;> cases hl
 case step =>
   rintro L a w i ⟨hL, f, hS, hC, hF⟩ hi
   obtain ⟨hun, o, ho, hall⟩ := mem_ready.1 hi
   have hlt : i < 16 := (Array.getElem?_eq_some_iff.1 ho).1
   have hx0 : a.tmps.getD 0 undef = .pointer (some ⟨A, 0, none⟩) := (hS.out 0 (by decide)).trans h0
   have hx3 : a.tmps.getD 3 undef = .pointer (some ⟨b3, 0, none⟩) := (hS.out 3 (by decide)).trans h3
   have hbw : w.heap[b3]? = some (.cells #[u0, u1, u2, u3, .slice (some ⟨kb, koff, none⟩) kl kc] 25) := hF.pf.at_ hbox hb3A (by decide)
   have hkw : ∀ {o' : Nat} {n : Value}, Cells5 w1 kb o' n → Cells5 w kb o' n := fun hh => cells5_same hh (hF.pf.low kb hkb)
   have hf : ∀ (j d : Nat) (c : Value), dsC[j]? = some (some d) → cstE A b3 kb koff kl kc n0 n1 j = some c → L.getD j false = true → a.tmps.getD d undef = c := fun j d c h1 h2 h3 => (hS.inn j d h1 h3).trans (hC j c (by rw [← hcst]; exact h2) h3)
   have hL5 : L.getD i false = false := by
     have h16 : i < L.size := by omega
     simpa [Array.getD, h16] using hun
   clear hi hun
   match i, hlt with
   | 0, _ => 
     obtain rfl := Option.some.inj ho
     refine Iv.val rfl rfl (w' := w) (U.Reg.mv rfl hx0) ⟨by rw [Array.size_setIfInBounds]; exact hL, _, hS.put hn (i := 0) (d := 19) rfl (by rw [hsz]; decide) _, cput 0 _ hC (fun c hc => by rw [← hcst] at hc; exact Option.some.inj hc), ?_⟩
     exact noth hF (show 0 ≠ 5 ∧ 0 ≠ 11 ∧ 0 ≠ 12 ∧ 0 ≠ 13 ∧ 0 ≠ 14 ∧ 0 ≠ 15 by decide)
   | 1, _ => 
     obtain rfl := Option.some.inj ho
     refine Iv.val rfl rfl (w' := w) (Reg.faN4 rfl hx3) ⟨by rw [Array.size_setIfInBounds]; exact hL, _, hS.put hn (i := 1) (d := 20) rfl (by rw [hsz]; decide) _, cput 1 _ hC (fun c hc => by rw [← hcst] at hc; exact Option.some.inj hc), ?_⟩
     exact noth hF (show 1 ≠ 5 ∧ 1 ≠ 11 ∧ 1 ≠ 12 ∧ 1 ≠ 13 ∧ 1 ≠ 14 ∧ 1 ≠ 15 by decide)
   | 2, _ => 
     obtain rfl := Option.some.inj ho
     refine Iv.val rfl rfl (w' := w) (U.Reg.ld1 rfl (hf 1 20 _ rfl rfl (hall ⟨1, .data⟩ (Array.mem_of_getElem? (i := 0) rfl) rfl)) (cells_five hbw).2.2.2.2 (Tryz.isAgg23 _)) ⟨by rw [Array.size_setIfInBounds]; exact hL, _, hS.put hn (i := 2) (d := 21) rfl (by rw [hsz]; decide) _, cput 2 _ hC (fun c hc => by rw [← hcst] at hc; exact Option.some.inj hc), ?_⟩
     exact noth hF (show 2 ≠ 5 ∧ 2 ≠ 11 ∧ 2 ≠ 12 ∧ 2 ≠ 13 ∧ 2 ≠ 14 ∧ 2 ≠ 15 by decide)
   | 3, _ => 
     obtain rfl := Option.some.inj ho
     refine Iv.val rfl rfl (w' := w) (Reg.ixN rfl (hf 2 21 _ rfl rfl (hall ⟨2, .data⟩ (Array.mem_of_getElem? (i := 0) rfl) rfl)) (k := 0) (e := koff) rfl (by omega) (by omega)) ⟨by rw [Array.size_setIfInBounds]; exact hL, _, hS.put hn (i := 3) (d := 22) rfl (by rw [hsz]; decide) _, cput 3 _ hC (fun c hc => by rw [← hcst] at hc; exact Option.some.inj hc), ?_⟩
     exact noth hF (show 3 ≠ 5 ∧ 3 ≠ 11 ∧ 3 ≠ 12 ∧ 3 ≠ 13 ∧ 3 ≠ 14 ∧ 3 ≠ 15 by decide)
   | 4, _ => 
     obtain rfl := Option.some.inj ho
     refine Iv.val rfl rfl (w' := w) (Reg.ldM rfl (hf 3 22 _ rfl rfl (hall ⟨3, .data⟩ (Array.mem_of_getElem? (i := 0) rfl) rfl)) (hkw hk0)) ⟨by rw [Array.size_setIfInBounds]; exact hL, _, hS.put hn (i := 4) (d := 23) rfl (by rw [hsz]; decide) _, cput 4 _ hC (fun c hc => by rw [← hcst] at hc; exact Option.some.inj hc), ?_⟩
     exact noth hF (show 4 ≠ 5 ∧ 4 ≠ 11 ∧ 4 ≠ 12 ∧ 4 ≠ 13 ∧ 4 ≠ 14 ∧ 4 ≠ 15 by decide)
   | 6, _ => 
     obtain rfl := Option.some.inj ho
     refine Iv.val rfl rfl (w' := w) (U.Reg.mv rfl hx0) ⟨by rw [Array.size_setIfInBounds]; exact hL, _, hS.put hn (i := 6) (d := 25) rfl (by rw [hsz]; decide) _, cput 6 _ hC (fun c hc => by rw [← hcst] at hc; exact Option.some.inj hc), ?_⟩
     exact noth hF (show 6 ≠ 5 ∧ 6 ≠ 11 ∧ 6 ≠ 12 ∧ 6 ≠ 13 ∧ 6 ≠ 14 ∧ 6 ≠ 15 by decide)
   | 7, _ => 
     obtain rfl := Option.some.inj ho
     refine Iv.val rfl rfl (w' := w) (Reg.faN4 rfl hx3) ⟨by rw [Array.size_setIfInBounds]; exact hL, _, hS.put hn (i := 7) (d := 26) rfl (by rw [hsz]; decide) _, cput 7 _ hC (fun c hc => by rw [← hcst] at hc; exact Option.some.inj hc), ?_⟩
     exact noth hF (show 7 ≠ 5 ∧ 7 ≠ 11 ∧ 7 ≠ 12 ∧ 7 ≠ 13 ∧ 7 ≠ 14 ∧ 7 ≠ 15 by decide)
   | 8, _ => 
     obtain rfl := Option.some.inj ho
     refine Iv.val rfl rfl (w' := w) (U.Reg.ld1 rfl (hf 7 26 _ rfl rfl (hall ⟨7, .data⟩ (Array.mem_of_getElem? (i := 0) rfl) rfl)) (cells_five hbw).2.2.2.2 (Tryz.isAgg23 _)) ⟨by rw [Array.size_setIfInBounds]; exact hL, _, hS.put hn (i := 8) (d := 27) rfl (by rw [hsz]; decide) _, cput 8 _ hC (fun c hc => by rw [← hcst] at hc; exact Option.some.inj hc), ?_⟩
     exact noth hF (show 8 ≠ 5 ∧ 8 ≠ 11 ∧ 8 ≠ 12 ∧ 8 ≠ 13 ∧ 8 ≠ 14 ∧ 8 ≠ 15 by decide)
   | 9, _ => 
     obtain rfl := Option.some.inj ho
     refine Iv.val rfl rfl (w' := w) (Reg.ixN rfl (hf 8 27 _ rfl rfl (hall ⟨8, .data⟩ (Array.mem_of_getElem? (i := 0) rfl) rfl)) (k := 1) (e := koff + 5) rfl (by omega) (by omega)) ⟨by rw [Array.size_setIfInBounds]; exact hL, _, hS.put hn (i := 9) (d := 28) rfl (by rw [hsz]; decide) _, cput 9 _ hC (fun c hc => by rw [← hcst] at hc; exact Option.some.inj hc), ?_⟩
     exact noth hF (show 9 ≠ 5 ∧ 9 ≠ 11 ∧ 9 ≠ 12 ∧ 9 ≠ 13 ∧ 9 ≠ 14 ∧ 9 ≠ 15 by decide)
   | 10, _ => 
     obtain rfl := Option.some.inj ho
     refine Iv.val rfl rfl (w' := w) (Reg.ldM rfl (hf 9 28 _ rfl rfl (hall ⟨9, .data⟩ (Array.mem_of_getElem? (i := 0) rfl) rfl)) (hkw hk1)) ⟨by rw [Array.size_setIfInBounds]; exact hL, _, hS.put hn (i := 10) (d := 29) rfl (by rw [hsz]; decide) _, cput 10 _ hC (fun c hc => by rw [← hcst] at hc; exact Option.some.inj hc), ?_⟩
     exact noth hF (show 10 ≠ 5 ∧ 10 ≠ 11 ∧ 10 ≠ 12 ∧ 10 ≠ 13 ∧ 10 ≠ 14 ∧ 10 ≠ 15 by decide)
   | 5, _ =>
     obtain rfl := Option.some.inj ho
     have h11 : L.getD 11 false = false := by
       cases hl : L.getD 11 false with
       | false => rfl
       | true => have := hF.c1 hl; rw [hL5] at this; cases this
     have hau1 := hF.au
     rw [if_neg (by rw [h11]; decide), if_neg (by rw [hL5]; decide)] at hau1
     have g0 : a.eval (.tmp 19) = _ := hf 0 19 _ rfl rfl (hall ⟨0, .data⟩ (Array.mem_of_getElem? (i := 0) rfl) rfl)
     have g4 : a.eval (.tmp 23) = _ := hf 4 23 _ rfl rfl (hall ⟨4, .data⟩ (Array.mem_of_getElem? (i := 1) rfl) rfl)
     refine Iv.call rfl rfl rfl (vs := #[.pointer (some ⟨A, 0, none⟩), n0]) (by simp [g0, g4]) (by kernel_rfl) (hc1 w hau1 hF.pf) ?_
     rintro e W ⟨rfl, ha, hp⟩
     refine ⟨_, rfl, by rw [Array.size_setIfInBounds]; exact hL, _, hS.put hn (i := 5) (d := 24) rfl (by rw [hsz]; decide) _, cput 5 _ hC (fun c hc => by rw [← hcst] at hc; cases hc), ?_⟩
     have := hF.call1 hL5 hAl ha hp
     simpa only [setL (show 5 < L.size by omega), getD_set_ne false (show 5 ≠ 11 by decide), getD_set_ne false (show 5 ≠ 12 by decide), getD_set_ne false (show 5 ≠ 13 by decide), getD_set_ne false (show 5 ≠ 14 by decide), getD_set_ne false (show 5 ≠ 15 by decide), updN f _ (show 11 ≠ 5 by decide), updN f _ (show 12 ≠ 5 by decide), updN f _ (show 13 ≠ 5 by decide), updS] using this
   | 11, _ =>
     obtain rfl := Option.some.inj ho
     have hl5 : L.getD 5 false = true := hall ⟨5, .chain⟩ (Array.mem_of_getElem? (i := 2) rfl) rfl
     have hau1 := hF.au
     rw [if_neg (by rw [hL5]; decide), if_pos hl5] at hau1
     have g0 : a.eval (.tmp 25) = _ := hf 6 25 _ rfl rfl (hall ⟨6, .data⟩ (Array.mem_of_getElem? (i := 0) rfl) rfl)
     have g4 : a.eval (.tmp 29) = _ := hf 10 29 _ rfl rfl (hall ⟨10, .data⟩ (Array.mem_of_getElem? (i := 1) rfl) rfl)
     refine Iv.call rfl rfl rfl (vs := #[.pointer (some ⟨A, 0, none⟩), n1]) (by simp [g0, g4]) (by kernel_rfl) (hc2 w hau1 hF.pf) ?_
     rintro e W ⟨rfl, ha, hp⟩
     refine ⟨_, rfl, by rw [Array.size_setIfInBounds]; exact hL, _, hS.put hn (i := 11) (d := 30) rfl (by rw [hsz]; decide) _, cput 11 _ hC (fun c hc => by rw [← hcst] at hc; cases hc), ?_⟩
     have := hF.call2 hl5 hAl ha hp
     simpa only [setL (show 11 < L.size by omega), getD_set_ne false (show 11 ≠ 5 by decide), getD_set_ne false (show 11 ≠ 12 by decide), getD_set_ne false (show 11 ≠ 13 by decide), getD_set_ne false (show 11 ≠ 14 by decide), getD_set_ne false (show 11 ≠ 15 by decide), updN f _ (show 5 ≠ 11 by decide), updN f _ (show 12 ≠ 11 by decide), updN f _ (show 13 ≠ 11 by decide), updS] using this
   | 12, _ =>
     obtain rfl := Option.some.inj ho
     refine Iv.val rfl rfl (Reg.alE rfl) ⟨by rw [Array.size_setIfInBounds]; exact hL, _, hS.put hn (i := 12) (d := 5) rfl (by rw [hsz]; decide) _, cput 12 _ hC (fun c hc => by rw [← hcst] at hc; cases hc), ?_⟩
     have := hF.box1 hL5 hB
     simpa only [setL (show 12 < L.size by omega), getD_set_ne false (show 12 ≠ 5 by decide), getD_set_ne false (show 12 ≠ 11 by decide), getD_set_ne false (show 12 ≠ 13 by decide), getD_set_ne false (show 12 ≠ 14 by decide), getD_set_ne false (show 12 ≠ 15 by decide), updN f _ (show 5 ≠ 12 by decide), updN f _ (show 11 ≠ 12 by decide), updN f _ (show 13 ≠ 12 by decide), updS] using this
   | 13, _ =>
     obtain rfl := Option.some.inj ho
     refine Iv.val rfl rfl (Reg.alE rfl) ⟨by rw [Array.size_setIfInBounds]; exact hL, _, hS.put hn (i := 13) (d := 6) rfl (by rw [hsz]; decide) _, cput 13 _ hC (fun c hc => by rw [← hcst] at hc; cases hc), ?_⟩
     have := hF.box2 hL5 hB
     simpa only [setL (show 13 < L.size by omega), getD_set_ne false (show 13 ≠ 5 by decide), getD_set_ne false (show 13 ≠ 11 by decide), getD_set_ne false (show 13 ≠ 12 by decide), getD_set_ne false (show 13 ≠ 14 by decide), getD_set_ne false (show 13 ≠ 15 by decide), updN f _ (show 5 ≠ 13 by decide), updN f _ (show 11 ≠ 13 by decide), updN f _ (show 12 ≠ 13 by decide), updS] using this
   | 14, _ =>
     obtain rfl := Option.some.inj ho
     have hl12 : L.getD 12 false = true := (hall ⟨12, .data⟩ (Array.mem_of_getElem? (i := 0) rfl) rfl)
     have hl5 : L.getD 5 false = true := (hall ⟨5, .data⟩ (Array.mem_of_getElem? (i := 1) rfl) rfl)
     obtain ⟨b, hb1, hb2, hb3⟩ := hF.bx hl12
     refine Iv.skip rfl rfl (Reg.stE rfl ((hS.inn 12 5 rfl hl12).trans hb1) ((hS.inn 5 24 rfl hl5).trans (hF.r1 hl5)) hb3) ⟨by rw [Array.size_setIfInBounds]; exact hL, _, hS.skip (i := 14) rfl, cskip 14 hC (by rw [← hcst]; rfl), ?_⟩
     have := hF.put1 hl12 hB hb1
     simpa only [setL (show 14 < L.size by omega), getD_set_ne false (show 14 ≠ 5 by decide), getD_set_ne false (show 14 ≠ 11 by decide), getD_set_ne false (show 14 ≠ 12 by decide), getD_set_ne false (show 14 ≠ 13 by decide), getD_set_ne false (show 14 ≠ 15 by decide)] using this
   | 15, _ =>
     obtain rfl := Option.some.inj ho
     have hl13 : L.getD 13 false = true := (hall ⟨13, .data⟩ (Array.mem_of_getElem? (i := 0) rfl) rfl)
     have hl11 : L.getD 11 false = true := (hall ⟨11, .data⟩ (Array.mem_of_getElem? (i := 1) rfl) rfl)
     obtain ⟨b, hb1, hb2, hb3⟩ := hF.bz hl13
     refine Iv.skip rfl rfl (Reg.stE rfl ((hS.inn 13 6 rfl hl13).trans hb1) ((hS.inn 11 30 rfl hl11).trans (hF.r2 hl11)) hb3) ⟨by rw [Array.size_setIfInBounds]; exact hL, _, hS.skip (i := 15) rfl, cskip 15 hC (by rw [← hcst]; rfl), ?_⟩
     have := hF.put2 hl13 hB hb1
     simpa only [setL (show 15 < L.size by omega), getD_set_ne false (show 15 ≠ 5 by decide), getD_set_ne false (show 15 ≠ 11 by decide), getD_set_ne false (show 15 ≠ 12 by decide), getD_set_ne false (show 15 ≠ 13 by decide), getD_set_ne false (show 15 ≠ 14 by decide)] using this
 case done =>
   rintro L a w ⟨hL, f, hS, hC, hF⟩ hd
   have hall : ∀ i, i < 16 → L.getD i false = true := hd
   simp only [hall 5 (by decide), hall 11 (by decide), hall 12 (by decide), hall 13 (by decide), hall 14 (by decide), hall 15 (by decide)] at hF
   obtain ⟨bx, hx1, hx2, hx3⟩ := hF.bx rfl
   obtain ⟨bz, hz1, hz2, hz3⟩ := hF.bz rfl
   have hne : bx ≠ bz := by rintro rfl; exact hF.ne rfl rfl (hx1.trans hz1.symm)
   rw [hS.lit [(19, .pointer (some ⟨A, 0, none⟩)), (20, .pointer (some ⟨b3, 4, none⟩)), (21, .slice (some ⟨kb, koff, none⟩) kl kc), (22, .pointer (some ⟨kb, koff, none⟩)), (23, n0), (24, encE e1), (25, .pointer (some ⟨A, 0, none⟩)), (26, .pointer (some ⟨b3, 4, none⟩)), (27, .slice (some ⟨kb, koff, none⟩) kl kc), (28, .pointer (some ⟨kb, koff + 5, none⟩)), (29, n1), (30, encE e2), (5, .pointer (some ⟨bx, 0, none⟩)), (6, .pointer (some ⟨bz, 0, none⟩))] (by simp only [Reg.inB, hsz]; rfl) ?_ ?_]
   · exact h bx bz w hne hx2 hz2 hx3 hz3 hF.au hF.pf
   · intro p hp
     simp only [List.mem_cons, List.not_mem_nil, or_false] at hp
     rcases hp with rfl | rfl | rfl | rfl | rfl | rfl | rfl | rfl | rfl | rfl | rfl | rfl | rfl | rfl
     · exact (hS.inn 0 19 rfl (hall 0 (by decide))).trans (hC 0 _ (by rw [← hcst]; rfl) (hall 0 (by decide)))
     · exact (hS.inn 1 20 rfl (hall 1 (by decide))).trans (hC 1 _ (by rw [← hcst]; rfl) (hall 1 (by decide)))
     · exact (hS.inn 2 21 rfl (hall 2 (by decide))).trans (hC 2 _ (by rw [← hcst]; rfl) (hall 2 (by decide)))
     · exact (hS.inn 3 22 rfl (hall 3 (by decide))).trans (hC 3 _ (by rw [← hcst]; rfl) (hall 3 (by decide)))
     · exact (hS.inn 4 23 rfl (hall 4 (by decide))).trans (hC 4 _ (by rw [← hcst]; rfl) (hall 4 (by decide)))
     · exact (hS.inn 5 24 rfl (hall 5 (by decide))).trans (hF.r1 rfl)
     · exact (hS.inn 6 25 rfl (hall 6 (by decide))).trans (hC 6 _ (by rw [← hcst]; rfl) (hall 6 (by decide)))
     · exact (hS.inn 7 26 rfl (hall 7 (by decide))).trans (hC 7 _ (by rw [← hcst]; rfl) (hall 7 (by decide)))
     · exact (hS.inn 8 27 rfl (hall 8 (by decide))).trans (hC 8 _ (by rw [← hcst]; rfl) (hall 8 (by decide)))
     · exact (hS.inn 9 28 rfl (hall 9 (by decide))).trans (hC 9 _ (by rw [← hcst]; rfl) (hall 9 (by decide)))
     · exact (hS.inn 10 29 rfl (hall 10 (by decide))).trans (hC 10 _ (by rw [← hcst]; rfl) (hall 10 (by decide)))
     · exact (hS.inn 11 30 rfl (hall 11 (by decide))).trans (hF.r2 rfl)
     · exact (hS.inn 12 5 rfl (hall 12 (by decide))).trans hx1
     · exact (hS.inn 13 6 rfl (hall 13 (by decide))).trans hz1
   · intro d hd hm
     simp only [dsC, List.mem_cons, Option.some.injEq, List.not_mem_nil, reduceCtorEq, or_false] at hm
     simp only [List.mem_cons, List.not_mem_nil, or_false, forall_eq_or_imp, forall_eq] at hd
     omega
def opsA : Array Oper := #[{ dst := some 42, op := Go.Op.move (Go.Operand.tmp 0), type := 52, pos := "ends.go:34", after := #[], guard := none }, { dst := some 43, op := Go.Op.fieldAddr 25 (Go.Operand.tmp 3) 4, type := 0, pos := "ends.go:34", after := #[], guard := none }, { dst := some 44, op := Go.Op.load 23 (Go.Operand.tmp 43), type := 23, pos := "ends.go:34", after := #[{ on := 1, ground := Go.Ground.data }], guard := none }, { dst := some 45, op := Go.Op.indexAddr 23 (Go.Operand.tmp 44) (Go.Operand.const (Go.Value.int Go.IntKind.i64 0)), type := 0, pos := "ends.go:34", after := #[{ on := 2, ground := Go.Ground.data }], guard := none }, { dst := some 46, op := Go.Op.load 25 (Go.Operand.tmp 45), type := 25, pos := "ends.go:34", after := #[{ on := 3, ground := Go.Ground.data }], guard := none }, { dst := some 47, op := Go.Op.call { callee := Go.Callee.value (Go.Operand.func 37), args := #[Go.Operand.tmp 42, Go.Operand.tmp 46], argTypes := #[52, 25] }, type := 87, pos := "ends.go:34", after := #[{ on := 0, ground := Go.Ground.data }, { on := 4, ground := Go.Ground.data }], guard := none }, { dst := some 48, op := Go.Op.move (Go.Operand.tmp 0), type := 52, pos := "ends.go:34", after := #[], guard := none }, { dst := some 49, op := Go.Op.fieldAddr 25 (Go.Operand.tmp 3) 4, type := 0, pos := "ends.go:34", after := #[], guard := none }, { dst := some 50, op := Go.Op.load 23 (Go.Operand.tmp 49), type := 23, pos := "ends.go:34", after := #[{ on := 7, ground := Go.Ground.data }], guard := none }, { dst := some 51, op := Go.Op.indexAddr 23 (Go.Operand.tmp 50) (Go.Operand.const (Go.Value.int Go.IntKind.i64 1)), type := 0, pos := "ends.go:34", after := #[{ on := 8, ground := Go.Ground.data }], guard := none }, { dst := some 52, op := Go.Op.load 25 (Go.Operand.tmp 51), type := 25, pos := "ends.go:34", after := #[{ on := 9, ground := Go.Ground.data }], guard := none }, { dst := some 53, op := Go.Op.call { callee := Go.Callee.value (Go.Operand.func 37), args := #[Go.Operand.tmp 48, Go.Operand.tmp 52], argTypes := #[52, 25] }, type := 87, pos := "ends.go:34", after := #[{ on := 6, ground := Go.Ground.data }, { on := 10, ground := Go.Ground.data }, { on := 5, ground := Go.Ground.chain }], guard := none }, { dst := some 7, op := Go.Op.alloc 87, type := 0, pos := "ends.go:34", after := #[], guard := none }, { dst := some 8, op := Go.Op.alloc 87, type := 0, pos := "ends.go:34", after := #[], guard := none }, { dst := none, op := Go.Op.store 87 (Go.Operand.tmp 7) (Go.Operand.tmp 47), type := 0, pos := "ends.go:34", after := #[{ on := 12, ground := Go.Ground.data }, { on := 5, ground := Go.Ground.data }, { on := 11, ground := Go.Ground.chain }, { on := 0, ground := Go.Ground.phase }, { on := 1, ground := Go.Ground.phase }, { on := 2, ground := Go.Ground.phase }, { on := 3, ground := Go.Ground.phase }, { on := 4, ground := Go.Ground.phase }, { on := 5, ground := Go.Ground.phase }, { on := 6, ground := Go.Ground.textOnly Go.Departure.lateStores }, { on := 7, ground := Go.Ground.textOnly Go.Departure.lateStores }, { on := 8, ground := Go.Ground.textOnly Go.Departure.lateStores }, { on := 9, ground := Go.Ground.textOnly Go.Departure.lateStores }, { on := 10, ground := Go.Ground.textOnly Go.Departure.lateStores }, { on := 11, ground := Go.Ground.textOnly Go.Departure.lateStoresUnsure }, { on := 12, ground := Go.Ground.phase }, { on := 13, ground := Go.Ground.phase }], guard := none }, { dst := none, op := Go.Op.store 87 (Go.Operand.tmp 8) (Go.Operand.tmp 53), type := 0, pos := "ends.go:34", after := #[{ on := 13, ground := Go.Ground.data }, { on := 11, ground := Go.Ground.data }, { on := 14, ground := Go.Ground.chain }, { on := 0, ground := Go.Ground.phase }, { on := 1, ground := Go.Ground.phase }, { on := 2, ground := Go.Ground.phase }, { on := 3, ground := Go.Ground.phase }, { on := 4, ground := Go.Ground.phase }, { on := 5, ground := Go.Ground.phase }, { on := 6, ground := Go.Ground.phase }, { on := 7, ground := Go.Ground.phase }, { on := 8, ground := Go.Ground.phase }, { on := 9, ground := Go.Ground.phase }, { on := 10, ground := Go.Ground.phase }, { on := 11, ground := Go.Ground.phase }, { on := 12, ground := Go.Ground.phase }, { on := 13, ground := Go.Ground.phase }, { on := 14, ground := Go.Ground.phase }], guard := none }]
def dsA : List (Option Nat) := [some 42, some 43, some 44, some 45, some 46, some 47, some 48, some 49, some 50, some 51, some 52, some 53, some 7, some 8, none, none]
set_option maxRecDepth 100000 in
set_option maxHeartbeats 4000000 in
theorem regA {Q : Exit → Act → World → Prop} (a0 : Act) (w1 : World) {B A b3 kb koff kl kc : Nat} {x : PA.En} {st0 st1 st2 : List PA.Pl} {e1 e2 : PA.En} {u0 u1 u2 u3 n0 n1 : Value} (hsz : a0.tmps.size = 86) (h0 : a0.tmps.getD 0 undef = .pointer (some ⟨A, 0, none⟩)) (h3 : a0.tmps.getD 3 undef = .pointer (some ⟨b3, 0, none⟩))
   (hbox : w1.heap[b3]? = some (.cells #[u0, u1, u2, u3, .slice (some ⟨kb, koff, none⟩) kl kc] 25)) (hkl : 2 ≤ kl) (hkb : kb < B) (hk0 : Cells5 w1 kb koff n0) (hk1 : Cells5 w1 kb (koff + 5) n1) (hau : AutoAt w1 B A x st0)
   (hc1 : ∀ w, AutoAt w B A x st0 → PF B A w1 w → Calls Tryz.prog 37 #[.pointer (some ⟨A, 0, none⟩), n0] w fun e W => e = .returned (encE e1) ∧ AutoAt W B A x st1 ∧ PF B A w W)
   (hc2 : ∀ w, AutoAt w B A x st1 → PF B A w1 w → Calls Tryz.prog 37 #[.pointer (some ⟨A, 0, none⟩), n1] w fun e W => e = .returned (encE e2) ∧ AutoAt W B A x st2 ∧ PF B A w W)
   (h : ∀ bx bz W, bx ≠ bz → w1.heap.size ≤ bx → w1.heap.size ≤ bz → EB W bx e1 → EB W bz e2 → AutoAt W B A x st2 → PF B A w1 W → Q .normal (Reg.ov a0 [(42, .pointer (some ⟨A, 0, none⟩)), (43, .pointer (some ⟨b3, 4, none⟩)), (44, .slice (some ⟨kb, koff, none⟩) kl kc), (45, .pointer (some ⟨kb, koff, none⟩)), (46, n0), (47, encE e1), (48, .pointer (some ⟨A, 0, none⟩)), (49, .pointer (some ⟨b3, 4, none⟩)), (50, .slice (some ⟨kb, koff, none⟩) kl kc), (51, .pointer (some ⟨kb, koff + 5, none⟩)), (52, n1), (53, encE e2), (7, .pointer (some ⟨bx, 0, none⟩)), (8, .pointer (some ⟨bz, 0, none⟩))]) W) :
   (Code.region 9 opsA true).wp Tryz.prog Q a0 w1 := by
 obtain ⟨hBA, hAl⟩ := hau.lt
 have hB : B ≤ w1.heap.size := by omega
 have hb3l := (Array.getElem?_eq_some_iff.1 hbox).1
 have hb3A : b3 ≠ A := by
   rintro rfl
   obtain ⟨_, _, _, ha⟩ := hau
   rw [ha.box] at hbox
   cases hbox
 have hn : (dsA.filterMap id).Nodup := by decide
 obtain ⟨cst, hcst⟩ : ∃ cst, cstE A b3 kb koff kl kc n0 n1 = cst := ⟨_, rfl⟩
 have cput : ∀ {L : Array Bool} {f : Nat → Value} (i : Nat) (v : Value), (∀ j c, cst j = some c → L.getD j false = true → f j = c) → (∀ c, cst i = some c → v = c) → ∀ j c, cst j = some c → (L.setIfInBounds i true).getD j false = true → Iv.upd f i v j = c := by
   intro L f i v h1 h2 j c hj hl
   unfold Iv.upd
   by_cases e : j = i
   · subst e; rw [if_pos rfl]; exact h2 c hj
   · rw [if_neg e]
     rw [getD_set_ne false (Ne.symm e)] at hl
     exact h1 j c hj hl
 have cskip : ∀ {L : Array Bool} {f : Nat → Value} (i : Nat), (∀ j c, cst j = some c → L.getD j false = true → f j = c) → cst i = none → ∀ j c, cst j = some c → (L.setIfInBounds i true).getD j false = true → f j = c := by
   intro L f i h1 h2 j c hj hl
   have e : i ≠ j := by rintro rfl; rw [h2] at hj; cases hj
   rw [getD_set_ne false e] at hl
   exact h1 j c hj hl
 refine Iv.start (fun L a w => L.size = 16 ∧ ∃ f, Iv.Sl a0 dsA L f a ∧ (∀ j c, cst j = some c → L.getD j false = true → f j = c) ∧ Fc w1 B A x st0 st1 st2 e1 e2 (L.getD 5 false) (L.getD 11 false) (L.getD 12 false) (L.getD 13 false) (L.getD 14 false) (L.getD 15 false) (f 5) (f 11) (f 12) (f 13) w) (by kernel_rfl) ?step (by kernel_rfl) (fun L a w hi => hi.1) ?done ⟨rfl, fun _ => undef, Iv.Sl.start _ _ _ _, fun j c _ hl => ?z, ⟨hau.drew, fun e => (by cases e), fun e => (by cases e), (PF.refl _ _ _).drew, fun e => (by cases e), fun e => (by cases e), fun e => (by cases e), fun e => (by cases e), fun e => (by cases e), fun e => (by cases e)⟩⟩
 case z =>
   rw [Array.getD_eq_getD_getElem?, Array.getElem?_replicate] at hl
   split at hl <;> cases hl
 case step =>
   rintro L a w i ⟨hL, f, hS, hC, hF⟩ hi
   obtain ⟨hun, o, ho, hall⟩ := mem_ready.1 hi
   have hlt : i < 16 := (Array.getElem?_eq_some_iff.1 ho).1
   have hx0 : a.tmps.getD 0 undef = .pointer (some ⟨A, 0, none⟩) := (hS.out 0 (by decide)).trans h0
   have hx3 : a.tmps.getD 3 undef = .pointer (some ⟨b3, 0, none⟩) := (hS.out 3 (by decide)).trans h3
   have hbw : w.heap[b3]? = some (.cells #[u0, u1, u2, u3, .slice (some ⟨kb, koff, none⟩) kl kc] 25) := hF.pf.at_ hbox hb3A (by decide)
   have hkw : ∀ {o' : Nat} {n : Value}, Cells5 w1 kb o' n → Cells5 w kb o' n := fun hh => cells5_same hh (hF.pf.low kb hkb)
   have hf : ∀ (j d : Nat) (c : Value), dsA[j]? = some (some d) → cstE A b3 kb koff kl kc n0 n1 j = some c → L.getD j false = true → a.tmps.getD d undef = c := fun j d c h1 h2 h3 => (hS.inn j d h1 h3).trans (hC j c (by rw [← hcst]; exact h2) h3)
   have hL5 : L.getD i false = false := by
     have h16 : i < L.size := by omega
     simpa [Array.getD, h16] using hun
   clear hi hun
   match i, hlt with
   | 0, _ => 
     obtain rfl := Option.some.inj ho
     refine Iv.val rfl rfl (w' := w) (U.Reg.mv rfl hx0) ⟨by rw [Array.size_setIfInBounds]; exact hL, _, hS.put hn (i := 0) (d := 42) rfl (by rw [hsz]; decide) _, cput 0 _ hC (fun c hc => by rw [← hcst] at hc; exact Option.some.inj hc), ?_⟩
     exact noth hF (show 0 ≠ 5 ∧ 0 ≠ 11 ∧ 0 ≠ 12 ∧ 0 ≠ 13 ∧ 0 ≠ 14 ∧ 0 ≠ 15 by decide)
   | 1, _ => 
     obtain rfl := Option.some.inj ho
     refine Iv.val rfl rfl (w' := w) (Reg.faN4 rfl hx3) ⟨by rw [Array.size_setIfInBounds]; exact hL, _, hS.put hn (i := 1) (d := 43) rfl (by rw [hsz]; decide) _, cput 1 _ hC (fun c hc => by rw [← hcst] at hc; exact Option.some.inj hc), ?_⟩
     exact noth hF (show 1 ≠ 5 ∧ 1 ≠ 11 ∧ 1 ≠ 12 ∧ 1 ≠ 13 ∧ 1 ≠ 14 ∧ 1 ≠ 15 by decide)
   | 2, _ => 
     obtain rfl := Option.some.inj ho
     refine Iv.val rfl rfl (w' := w) (U.Reg.ld1 rfl (hf 1 43 _ rfl rfl (hall ⟨1, .data⟩ (Array.mem_of_getElem? (i := 0) rfl) rfl)) (cells_five hbw).2.2.2.2 (Tryz.isAgg23 _)) ⟨by rw [Array.size_setIfInBounds]; exact hL, _, hS.put hn (i := 2) (d := 44) rfl (by rw [hsz]; decide) _, cput 2 _ hC (fun c hc => by rw [← hcst] at hc; exact Option.some.inj hc), ?_⟩
     exact noth hF (show 2 ≠ 5 ∧ 2 ≠ 11 ∧ 2 ≠ 12 ∧ 2 ≠ 13 ∧ 2 ≠ 14 ∧ 2 ≠ 15 by decide)
   | 3, _ => 
     obtain rfl := Option.some.inj ho
     refine Iv.val rfl rfl (w' := w) (Reg.ixN rfl (hf 2 44 _ rfl rfl (hall ⟨2, .data⟩ (Array.mem_of_getElem? (i := 0) rfl) rfl)) (k := 0) (e := koff) rfl (by omega) (by omega)) ⟨by rw [Array.size_setIfInBounds]; exact hL, _, hS.put hn (i := 3) (d := 45) rfl (by rw [hsz]; decide) _, cput 3 _ hC (fun c hc => by rw [← hcst] at hc; exact Option.some.inj hc), ?_⟩
     exact noth hF (show 3 ≠ 5 ∧ 3 ≠ 11 ∧ 3 ≠ 12 ∧ 3 ≠ 13 ∧ 3 ≠ 14 ∧ 3 ≠ 15 by decide)
   | 4, _ => 
     obtain rfl := Option.some.inj ho
     refine Iv.val rfl rfl (w' := w) (Reg.ldM rfl (hf 3 45 _ rfl rfl (hall ⟨3, .data⟩ (Array.mem_of_getElem? (i := 0) rfl) rfl)) (hkw hk0)) ⟨by rw [Array.size_setIfInBounds]; exact hL, _, hS.put hn (i := 4) (d := 46) rfl (by rw [hsz]; decide) _, cput 4 _ hC (fun c hc => by rw [← hcst] at hc; exact Option.some.inj hc), ?_⟩
     exact noth hF (show 4 ≠ 5 ∧ 4 ≠ 11 ∧ 4 ≠ 12 ∧ 4 ≠ 13 ∧ 4 ≠ 14 ∧ 4 ≠ 15 by decide)
   | 6, _ => 
     obtain rfl := Option.some.inj ho
     refine Iv.val rfl rfl (w' := w) (U.Reg.mv rfl hx0) ⟨by rw [Array.size_setIfInBounds]; exact hL, _, hS.put hn (i := 6) (d := 48) rfl (by rw [hsz]; decide) _, cput 6 _ hC (fun c hc => by rw [← hcst] at hc; exact Option.some.inj hc), ?_⟩
     exact noth hF (show 6 ≠ 5 ∧ 6 ≠ 11 ∧ 6 ≠ 12 ∧ 6 ≠ 13 ∧ 6 ≠ 14 ∧ 6 ≠ 15 by decide)
   | 7, _ => 
     obtain rfl := Option.some.inj ho
     refine Iv.val rfl rfl (w' := w) (Reg.faN4 rfl hx3) ⟨by rw [Array.size_setIfInBounds]; exact hL, _, hS.put hn (i := 7) (d := 49) rfl (by rw [hsz]; decide) _, cput 7 _ hC (fun c hc => by rw [← hcst] at hc; exact Option.some.inj hc), ?_⟩
     exact noth hF (show 7 ≠ 5 ∧ 7 ≠ 11 ∧ 7 ≠ 12 ∧ 7 ≠ 13 ∧ 7 ≠ 14 ∧ 7 ≠ 15 by decide)
   | 8, _ => 
     obtain rfl := Option.some.inj ho
     refine Iv.val rfl rfl (w' := w) (U.Reg.ld1 rfl (hf 7 49 _ rfl rfl (hall ⟨7, .data⟩ (Array.mem_of_getElem? (i := 0) rfl) rfl)) (cells_five hbw).2.2.2.2 (Tryz.isAgg23 _)) ⟨by rw [Array.size_setIfInBounds]; exact hL, _, hS.put hn (i := 8) (d := 50) rfl (by rw [hsz]; decide) _, cput 8 _ hC (fun c hc => by rw [← hcst] at hc; exact Option.some.inj hc), ?_⟩
     exact noth hF (show 8 ≠ 5 ∧ 8 ≠ 11 ∧ 8 ≠ 12 ∧ 8 ≠ 13 ∧ 8 ≠ 14 ∧ 8 ≠ 15 by decide)
   | 9, _ => 
     obtain rfl := Option.some.inj ho
     refine Iv.val rfl rfl (w' := w) (Reg.ixN rfl (hf 8 50 _ rfl rfl (hall ⟨8, .data⟩ (Array.mem_of_getElem? (i := 0) rfl) rfl)) (k := 1) (e := koff + 5) rfl (by omega) (by omega)) ⟨by rw [Array.size_setIfInBounds]; exact hL, _, hS.put hn (i := 9) (d := 51) rfl (by rw [hsz]; decide) _, cput 9 _ hC (fun c hc => by rw [← hcst] at hc; exact Option.some.inj hc), ?_⟩
     exact noth hF (show 9 ≠ 5 ∧ 9 ≠ 11 ∧ 9 ≠ 12 ∧ 9 ≠ 13 ∧ 9 ≠ 14 ∧ 9 ≠ 15 by decide)
   | 10, _ => 
     obtain rfl := Option.some.inj ho
     refine Iv.val rfl rfl (w' := w) (Reg.ldM rfl (hf 9 51 _ rfl rfl (hall ⟨9, .data⟩ (Array.mem_of_getElem? (i := 0) rfl) rfl)) (hkw hk1)) ⟨by rw [Array.size_setIfInBounds]; exact hL, _, hS.put hn (i := 10) (d := 52) rfl (by rw [hsz]; decide) _, cput 10 _ hC (fun c hc => by rw [← hcst] at hc; exact Option.some.inj hc), ?_⟩
     exact noth hF (show 10 ≠ 5 ∧ 10 ≠ 11 ∧ 10 ≠ 12 ∧ 10 ≠ 13 ∧ 10 ≠ 14 ∧ 10 ≠ 15 by decide)
   | 5, _ =>
     obtain rfl := Option.some.inj ho
     have h11 : L.getD 11 false = false := by
       cases hl : L.getD 11 false with
       | false => rfl
       | true => have := hF.c1 hl; rw [hL5] at this; cases this
     have hau1 := hF.au
     rw [if_neg (by rw [h11]; decide), if_neg (by rw [hL5]; decide)] at hau1
     have g0 : a.eval (.tmp 42) = _ := hf 0 42 _ rfl rfl (hall ⟨0, .data⟩ (Array.mem_of_getElem? (i := 0) rfl) rfl)
     have g4 : a.eval (.tmp 46) = _ := hf 4 46 _ rfl rfl (hall ⟨4, .data⟩ (Array.mem_of_getElem? (i := 1) rfl) rfl)
     refine Iv.call rfl rfl rfl (vs := #[.pointer (some ⟨A, 0, none⟩), n0]) (by simp [g0, g4]) (by kernel_rfl) (hc1 w hau1 hF.pf) ?_
     rintro e W ⟨rfl, ha, hp⟩
     refine ⟨_, rfl, by rw [Array.size_setIfInBounds]; exact hL, _, hS.put hn (i := 5) (d := 47) rfl (by rw [hsz]; decide) _, cput 5 _ hC (fun c hc => by rw [← hcst] at hc; cases hc), ?_⟩
     have := hF.call1 hL5 hAl ha hp
     simpa only [setL (show 5 < L.size by omega), getD_set_ne false (show 5 ≠ 11 by decide), getD_set_ne false (show 5 ≠ 12 by decide), getD_set_ne false (show 5 ≠ 13 by decide), getD_set_ne false (show 5 ≠ 14 by decide), getD_set_ne false (show 5 ≠ 15 by decide), updN f _ (show 11 ≠ 5 by decide), updN f _ (show 12 ≠ 5 by decide), updN f _ (show 13 ≠ 5 by decide), updS] using this
   | 11, _ =>
     obtain rfl := Option.some.inj ho
     have hl5 : L.getD 5 false = true := hall ⟨5, .chain⟩ (Array.mem_of_getElem? (i := 2) rfl) rfl
     have hau1 := hF.au
     rw [if_neg (by rw [hL5]; decide), if_pos hl5] at hau1
     have g0 : a.eval (.tmp 48) = _ := hf 6 48 _ rfl rfl (hall ⟨6, .data⟩ (Array.mem_of_getElem? (i := 0) rfl) rfl)
     have g4 : a.eval (.tmp 52) = _ := hf 10 52 _ rfl rfl (hall ⟨10, .data⟩ (Array.mem_of_getElem? (i := 1) rfl) rfl)
     refine Iv.call rfl rfl rfl (vs := #[.pointer (some ⟨A, 0, none⟩), n1]) (by simp [g0, g4]) (by kernel_rfl) (hc2 w hau1 hF.pf) ?_
     rintro e W ⟨rfl, ha, hp⟩
     refine ⟨_, rfl, by rw [Array.size_setIfInBounds]; exact hL, _, hS.put hn (i := 11) (d := 53) rfl (by rw [hsz]; decide) _, cput 11 _ hC (fun c hc => by rw [← hcst] at hc; cases hc), ?_⟩
     have := hF.call2 hl5 hAl ha hp
     simpa only [setL (show 11 < L.size by omega), getD_set_ne false (show 11 ≠ 5 by decide), getD_set_ne false (show 11 ≠ 12 by decide), getD_set_ne false (show 11 ≠ 13 by decide), getD_set_ne false (show 11 ≠ 14 by decide), getD_set_ne false (show 11 ≠ 15 by decide), updN f _ (show 5 ≠ 11 by decide), updN f _ (show 12 ≠ 11 by decide), updN f _ (show 13 ≠ 11 by decide), updS] using this
   | 12, _ =>
     obtain rfl := Option.some.inj ho
     refine Iv.val rfl rfl (Reg.alE rfl) ⟨by rw [Array.size_setIfInBounds]; exact hL, _, hS.put hn (i := 12) (d := 7) rfl (by rw [hsz]; decide) _, cput 12 _ hC (fun c hc => by rw [← hcst] at hc; cases hc), ?_⟩
     have := hF.box1 hL5 hB
     simpa only [setL (show 12 < L.size by omega), getD_set_ne false (show 12 ≠ 5 by decide), getD_set_ne false (show 12 ≠ 11 by decide), getD_set_ne false (show 12 ≠ 13 by decide), getD_set_ne false (show 12 ≠ 14 by decide), getD_set_ne false (show 12 ≠ 15 by decide), updN f _ (show 5 ≠ 12 by decide), updN f _ (show 11 ≠ 12 by decide), updN f _ (show 13 ≠ 12 by decide), updS] using this
   | 13, _ =>
     obtain rfl := Option.some.inj ho
     refine Iv.val rfl rfl (Reg.alE rfl) ⟨by rw [Array.size_setIfInBounds]; exact hL, _, hS.put hn (i := 13) (d := 8) rfl (by rw [hsz]; decide) _, cput 13 _ hC (fun c hc => by rw [← hcst] at hc; cases hc), ?_⟩
     have := hF.box2 hL5 hB
     simpa only [setL (show 13 < L.size by omega), getD_set_ne false (show 13 ≠ 5 by decide), getD_set_ne false (show 13 ≠ 11 by decide), getD_set_ne false (show 13 ≠ 12 by decide), getD_set_ne false (show 13 ≠ 14 by decide), getD_set_ne false (show 13 ≠ 15 by decide), updN f _ (show 5 ≠ 13 by decide), updN f _ (show 11 ≠ 13 by decide), updN f _ (show 12 ≠ 13 by decide), updS] using this
   | 14, _ =>
     obtain rfl := Option.some.inj ho
     have hl12 : L.getD 12 false = true := (hall ⟨12, .data⟩ (Array.mem_of_getElem? (i := 0) rfl) rfl)
     have hl5 : L.getD 5 false = true := (hall ⟨5, .data⟩ (Array.mem_of_getElem? (i := 1) rfl) rfl)
     obtain ⟨b, hb1, hb2, hb3⟩ := hF.bx hl12
     refine Iv.skip rfl rfl (Reg.stE rfl ((hS.inn 12 7 rfl hl12).trans hb1) ((hS.inn 5 47 rfl hl5).trans (hF.r1 hl5)) hb3) ⟨by rw [Array.size_setIfInBounds]; exact hL, _, hS.skip (i := 14) rfl, cskip 14 hC (by rw [← hcst]; rfl), ?_⟩
     have := hF.put1 hl12 hB hb1
     simpa only [setL (show 14 < L.size by omega), getD_set_ne false (show 14 ≠ 5 by decide), getD_set_ne false (show 14 ≠ 11 by decide), getD_set_ne false (show 14 ≠ 12 by decide), getD_set_ne false (show 14 ≠ 13 by decide), getD_set_ne false (show 14 ≠ 15 by decide)] using this
   | 15, _ =>
     obtain rfl := Option.some.inj ho
     have hl13 : L.getD 13 false = true := (hall ⟨13, .data⟩ (Array.mem_of_getElem? (i := 0) rfl) rfl)
     have hl11 : L.getD 11 false = true := (hall ⟨11, .data⟩ (Array.mem_of_getElem? (i := 1) rfl) rfl)
     obtain ⟨b, hb1, hb2, hb3⟩ := hF.bz hl13
     refine Iv.skip rfl rfl (Reg.stE rfl ((hS.inn 13 8 rfl hl13).trans hb1) ((hS.inn 11 53 rfl hl11).trans (hF.r2 hl11)) hb3) ⟨by rw [Array.size_setIfInBounds]; exact hL, _, hS.skip (i := 15) rfl, cskip 15 hC (by rw [← hcst]; rfl), ?_⟩
     have := hF.put2 hl13 hB hb1
     simpa only [setL (show 15 < L.size by omega), getD_set_ne false (show 15 ≠ 5 by decide), getD_set_ne false (show 15 ≠ 11 by decide), getD_set_ne false (show 15 ≠ 12 by decide), getD_set_ne false (show 15 ≠ 13 by decide), getD_set_ne false (show 15 ≠ 14 by decide)] using this
 case done =>
   rintro L a w ⟨hL, f, hS, hC, hF⟩ hd
   have hall : ∀ i, i < 16 → L.getD i false = true := hd
   simp only [hall 5 (by decide), hall 11 (by decide), hall 12 (by decide), hall 13 (by decide), hall 14 (by decide), hall 15 (by decide)] at hF
   obtain ⟨bx, hx1, hx2, hx3⟩ := hF.bx rfl
   obtain ⟨bz, hz1, hz2, hz3⟩ := hF.bz rfl
   have hne : bx ≠ bz := by rintro rfl; exact hF.ne rfl rfl (hx1.trans hz1.symm)
   rw [hS.lit [(42, .pointer (some ⟨A, 0, none⟩)), (43, .pointer (some ⟨b3, 4, none⟩)), (44, .slice (some ⟨kb, koff, none⟩) kl kc), (45, .pointer (some ⟨kb, koff, none⟩)), (46, n0), (47, encE e1), (48, .pointer (some ⟨A, 0, none⟩)), (49, .pointer (some ⟨b3, 4, none⟩)), (50, .slice (some ⟨kb, koff, none⟩) kl kc), (51, .pointer (some ⟨kb, koff + 5, none⟩)), (52, n1), (53, encE e2), (7, .pointer (some ⟨bx, 0, none⟩)), (8, .pointer (some ⟨bz, 0, none⟩))] (by simp only [Reg.inB, hsz]; rfl) ?_ ?_]
   · exact h bx bz w hne hx2 hz2 hx3 hz3 hF.au hF.pf
   · intro p hp
     simp only [List.mem_cons, List.not_mem_nil, or_false] at hp
     rcases hp with rfl | rfl | rfl | rfl | rfl | rfl | rfl | rfl | rfl | rfl | rfl | rfl | rfl | rfl
     · exact (hS.inn 0 42 rfl (hall 0 (by decide))).trans (hC 0 _ (by rw [← hcst]; rfl) (hall 0 (by decide)))
     · exact (hS.inn 1 43 rfl (hall 1 (by decide))).trans (hC 1 _ (by rw [← hcst]; rfl) (hall 1 (by decide)))
     · exact (hS.inn 2 44 rfl (hall 2 (by decide))).trans (hC 2 _ (by rw [← hcst]; rfl) (hall 2 (by decide)))
     · exact (hS.inn 3 45 rfl (hall 3 (by decide))).trans (hC 3 _ (by rw [← hcst]; rfl) (hall 3 (by decide)))
     · exact (hS.inn 4 46 rfl (hall 4 (by decide))).trans (hC 4 _ (by rw [← hcst]; rfl) (hall 4 (by decide)))
     · exact (hS.inn 5 47 rfl (hall 5 (by decide))).trans (hF.r1 rfl)
     · exact (hS.inn 6 48 rfl (hall 6 (by decide))).trans (hC 6 _ (by rw [← hcst]; rfl) (hall 6 (by decide)))
     · exact (hS.inn 7 49 rfl (hall 7 (by decide))).trans (hC 7 _ (by rw [← hcst]; rfl) (hall 7 (by decide)))
     · exact (hS.inn 8 50 rfl (hall 8 (by decide))).trans (hC 8 _ (by rw [← hcst]; rfl) (hall 8 (by decide)))
     · exact (hS.inn 9 51 rfl (hall 9 (by decide))).trans (hC 9 _ (by rw [← hcst]; rfl) (hall 9 (by decide)))
     · exact (hS.inn 10 52 rfl (hall 10 (by decide))).trans (hC 10 _ (by rw [← hcst]; rfl) (hall 10 (by decide)))
     · exact (hS.inn 11 53 rfl (hall 11 (by decide))).trans (hF.r2 rfl)
     · exact (hS.inn 12 7 rfl (hall 12 (by decide))).trans hx1
     · exact (hS.inn 13 8 rfl (hall 13 (by decide))).trans hz1
   · intro d hd hm
     simp only [dsA, List.mem_cons, Option.some.injEq, List.not_mem_nil, reduceCtorEq, or_false] at hm
     simp only [List.mem_cons, List.not_mem_nil, or_false, forall_eq_or_imp, forall_eq] at hd
     omega
end Go.Proofs.YtgngaldoemopjaaGreatDoor
