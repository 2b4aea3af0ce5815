/- What the law asks of both forests: its regions that draw their order. -/
import Derived.Test.YtbeihgjonhgfmaaGreatDoorCrw
namespace Go.Proofs.YtbeihgjonhgfmaaGreatDoor
open Go.RowKit Go.Shelf Go.Maps
theorem Reg.neS {P : Program} {w : World} {ρ : Operand → Value} {o : Oper} {t t' : TypeId} {x y : Operand} {s : ByteArray} (hop : o.op = .binOp .neq t x y t') (hx : ρ x = .string s) (hy : ρ y = .string s) :
    (execOp ρ o).run P w = .ok (.value (.bool false)) w := by
  obtain ⟨dst, op, type, pos, after, guard⟩ := o
  simp only at hop
  subst hop
  simp [execOp, hx, hy, eqGuard, binOp, Op.stringOp, Sem.run_pure]
theorem Reg.neB {w : World} {ρ : Operand → Value} {o : Oper} {x y : Operand} {b : Bool} (hop : o.op = .binOp .neq 4 x y 4) (hx : ρ x = .bool b) (hy : ρ y = .bool b) :
    (execOp ρ o).run Tryz.prog w = .ok (.value (.bool false)) w := by
  obtain ⟨dst, op, type, pos, after, guard⟩ := o
  simp only at hop
  subst hop
  cases b <;> simp [execOp, hx, hy, eqGuard, go_sem]
theorem Reg.neI {w : World} {ρ : Operand → Value} {o : Oper} {x y : Operand} {m : Int} (hop : o.op = .binOp .neq 3 x y 3) (hx : ρ x = .int .i64 m) (hy : ρ y = .int .i64 m) :
    (execOp ρ o).run Tryz.prog w = .ok (.value (.bool false)) w := by
  obtain ⟨dst, op, type, pos, after, guard⟩ := o
  simp only at hop
  subst hop
  simp [execOp, hx, hy, eqGuard, go_sem]
theorem Reg.geI {w : World} {ρ : Operand → Value} {o : Oper} {x y : Operand} {m n : Int} {b : Bool} (hop : o.op = .binOp .geq 3 x y 3) (hx : ρ x = .int .i64 m) (hy : ρ y = .int .i64 n) (hb : decide (n ≤ m) = b) :
    (execOp ρ o).run Tryz.prog w = .ok (.value (.bool b)) w := by
  obtain ⟨dst, op, type, pos, after, guard⟩ := o
  simp only at hop
  subst hop
  simp [execOp, hx, hy, eqGuard, go_sem, ← hb]
theorem Reg.pk {w : World} {ρ : Operand → Value} {o : Oper} {x y z : Operand} {v : Value} (hop : o.op = .pick x y z) (hx : ρ x = .bool false) (hz : ρ z = v) : (execOp ρ o).run Tryz.prog w = .ok (.value v) w := by
  obtain ⟨dst, op, type, pos, after, guard⟩ := o
  simp only at hop
  subst hop
  simp [execOp, hx, hz, go_sem]
theorem Reg.nt {w : World} {ρ : Operand → Value} {o : Oper} {x : Operand} (hop : o.op = .unOp .not 4 x) (hx : ρ x = .bool true) : (execOp ρ o).run Tryz.prog w = .ok (.value (.bool false)) w := by
  obtain ⟨dst, op, type, pos, after, guard⟩ := o
  simp only at hop
  subst hop
  simp [execOp, hx, go_sem]
namespace C
theorem plI_has (L : Row) (x : Tx) : decide (0 ≤ plI L x) = has L x := by
  cases hh : has L x with
  | false => rw [plI_lt hh]; rfl
  | true => obtain ⟨i, _, e⟩ := plI_ge hh; rw [e]; simp
theorem texts_own {W : World} {B B2 : Nat} {v u : Value} {ss : List Tx} (hv : OwnN W B v ss) (hu : OwnN W B2 u ss) (hl : ss.length ≤ 1000000) : Calls Tryz.prog 25 #[v, u] W fun e W' => e = .returned (.bool true) ∧ Below W.heap.size W W' := by
  obtain ⟨ao, c1, rfl, _, r1⟩ := hv.rd
  obtain ⟨bo, c2, rfl, _, r2⟩ := hu.rd
  refine (texts_any W ao bo c1 c2 ss ss r1 r2 hl).mono ?_
  rintro e W' ⟨rfl, b⟩
  exact ⟨by simp, b⟩
def opsL1 : Array Oper := #[{ dst := some 21, op := Go.Op.move (Go.Operand.tmp 0), type := 24, pos := "exact.go:42", after := #[], guard := none }, { dst := some 22, op := Go.Op.call { callee := Go.Callee.value (Go.Operand.func 12), args := #[Go.Operand.tmp 21], argTypes := #[24] }, type := 30, pos := "exact.go:42", after := #[{ on := 0, ground := Go.Ground.data }], guard := none }, { dst := some 23, op := Go.Op.move (Go.Operand.tmp 1), type := 38, pos := "exact.go:42", after := #[], guard := none }, { dst := some 24, op := Go.Op.nilCheck (Go.Operand.tmp 23), type := 0, pos := "exact.go:42", after := #[{ on := 2, ground := Go.Ground.data }], guard := none }, { dst := some 25, op := Go.Op.fieldAddr 40 (Go.Operand.tmp 24) 0, type := 0, pos := "exact.go:42", after := #[{ on := 3, ground := Go.Ground.data }], guard := none }, { dst := some 26, op := Go.Op.load 30 (Go.Operand.tmp 25), type := 30, pos := "exact.go:42", after := #[{ on := 4, ground := Go.Ground.data }], guard := none }, { dst := some 27, op := Go.Op.call { callee := Go.Callee.value (Go.Operand.func 25), args := #[Go.Operand.tmp 22, Go.Operand.tmp 26], argTypes := #[30, 30] }, type := 4, pos := "exact.go:42", after := #[{ on := 1, ground := Go.Ground.data }, { on := 5, ground := Go.Ground.data }, { on := 1, ground := Go.Ground.chain }], guard := none }, { dst := some 28, op := Go.Op.unOp Go.UnOp.not 4 (Go.Operand.tmp 27), type := 4, pos := "exact.go:42", after := #[{ on := 6, ground := Go.Ground.data }], guard := none }]
def opsL13 : Array Oper := #[{ dst := some 81, op := Go.Op.move (Go.Operand.tmp 13), type := 9, pos := "exact.go:54", after := #[], guard := none }, { dst := some 82, op := Go.Op.move (Go.Operand.tmp 16), type := 9, pos := "exact.go:54", after := #[], guard := none }, { dst := some 83, op := Go.Op.binOp Go.BinOp.neq 9 (Go.Operand.tmp 81) (Go.Operand.tmp 82) 9, type := 4, pos := "exact.go:54", after := #[{ on := 0, ground := Go.Ground.data }, { on := 1, ground := Go.Ground.data }], guard := none }, { dst := some 84, op := Go.Op.move (Go.Operand.tmp 83), type := 4, pos := "exact.go:54", after := #[{ on := 2, ground := Go.Ground.data }], guard := none }, { dst := some 85, op := Go.Op.move (Go.Operand.tmp 14), type := 4, pos := "exact.go:54", after := #[{ on := 3, ground := Go.Ground.guard }], guard := some (3, false) }, { dst := some 86, op := Go.Op.move (Go.Operand.tmp 17), type := 4, pos := "exact.go:54", after := #[{ on := 3, ground := Go.Ground.guard }], guard := some (3, false) }, { dst := some 87, op := Go.Op.binOp Go.BinOp.neq 4 (Go.Operand.tmp 85) (Go.Operand.tmp 86) 4, type := 4, pos := "exact.go:54", after := #[{ on := 4, ground := Go.Ground.data }, { on := 5, ground := Go.Ground.data }, { on := 3, ground := Go.Ground.guard }], guard := some (3, false) }, { dst := some 88, op := Go.Op.pick (Go.Operand.tmp 84) (Go.Operand.const (Go.Value.bool true)) (Go.Operand.tmp 87), type := 4, pos := "exact.go:54", after := #[{ on := 3, ground := Go.Ground.data }, { on := 6, ground := Go.Ground.data }], guard := none }, { dst := some 89, op := Go.Op.move (Go.Operand.tmp 88), type := 4, pos := "exact.go:54", after := #[{ on := 7, ground := Go.Ground.data }, { on := 3, ground := Go.Ground.chain }], guard := none }, { dst := some 90, op := Go.Op.move (Go.Operand.tmp 15), type := 26, pos := "exact.go:54", after := #[{ on := 8, ground := Go.Ground.guard }], guard := some (8, false) }, { dst := some 91, op := Go.Op.move (Go.Operand.tmp 18), type := 3, pos := "exact.go:54", after := #[{ on := 8, ground := Go.Ground.guard }], guard := some (8, false) }, { dst := some 92, op := Go.Op.binOp Go.BinOp.neq 3 (Go.Operand.tmp 90) (Go.Operand.tmp 91) 3, type := 4, pos := "exact.go:54", after := #[{ on := 9, ground := Go.Ground.data }, { on := 10, ground := Go.Ground.data }, { on := 8, ground := Go.Ground.guard }], guard := some (8, false) }, { dst := some 93, op := Go.Op.pick (Go.Operand.tmp 89) (Go.Operand.const (Go.Value.bool true)) (Go.Operand.tmp 92), type := 4, pos := "exact.go:54", after := #[{ on := 8, ground := Go.Ground.data }, { on := 11, ground := Go.Ground.data }], guard := none }, { dst := some 94, op := Go.Op.move (Go.Operand.tmp 93), type := 4, pos := "exact.go:54", after := #[{ on := 12, ground := Go.Ground.data }, { on := 8, ground := Go.Ground.chain }], guard := none }, { dst := some 95, op := Go.Op.move (Go.Operand.tmp 0), type := 24, pos := "exact.go:54", after := #[{ on := 13, ground := Go.Ground.guard }], guard := some (13, false) }, { dst := some 96, op := Go.Op.move (Go.Operand.tmp 11), type := 30, pos := "exact.go:54", after := #[{ on := 13, ground := Go.Ground.guard }], guard := some (13, false) }, { dst := some 97, op := Go.Op.move (Go.Operand.tmp 12), type := 3, pos := "exact.go:54", after := #[{ on := 13, ground := Go.Ground.guard }], guard := some (13, false) }, { dst := some 98, op := Go.Op.indexAddr 30 (Go.Operand.tmp 96) (Go.Operand.tmp 97), type := 0, pos := "exact.go:54", after := #[{ on := 15, ground := Go.Ground.data }, { on := 16, ground := Go.Ground.data }, { on := 13, ground := Go.Ground.guard }], guard := some (13, false) }, { dst := some 99, op := Go.Op.load 9 (Go.Operand.tmp 98), type := 9, pos := "exact.go:54", after := #[{ on := 17, ground := Go.Ground.data }, { on := 13, ground := Go.Ground.guard }], guard := some (13, false) }, { dst := some 100, op := Go.Op.call { callee := Go.Callee.value (Go.Operand.func 17), args := #[Go.Operand.tmp 95, Go.Operand.tmp 99], argTypes := #[24, 9] }, type := 4, pos := "exact.go:54", after := #[{ on := 14, ground := Go.Ground.data }, { on := 18, ground := Go.Ground.data }, { on := 13, ground := Go.Ground.chain }, { on := 13, ground := Go.Ground.guard }], guard := some (13, false) }, { dst := some 101, op := Go.Op.move (Go.Operand.tmp 1), type := 38, pos := "exact.go:54", after := #[{ on := 13, ground := Go.Ground.guard }], guard := some (13, false) }, { dst := some 102, op := Go.Op.move (Go.Operand.tmp 11), type := 30, pos := "exact.go:54", after := #[{ on := 13, ground := Go.Ground.guard }], guard := some (13, false) }, { dst := some 103, op := Go.Op.move (Go.Operand.tmp 12), type := 3, pos := "exact.go:54", after := #[{ on := 13, ground := Go.Ground.guard }], guard := some (13, false) }, { dst := some 104, op := Go.Op.indexAddr 30 (Go.Operand.tmp 102) (Go.Operand.tmp 103), type := 0, pos := "exact.go:54", after := #[{ on := 21, ground := Go.Ground.data }, { on := 22, ground := Go.Ground.data }, { on := 13, ground := Go.Ground.guard }], guard := some (13, false) }, { dst := some 105, op := Go.Op.load 9 (Go.Operand.tmp 104), type := 9, pos := "exact.go:54", after := #[{ on := 23, ground := Go.Ground.data }, { on := 13, ground := Go.Ground.guard }], guard := some (13, false) }, { dst := some 106, op := Go.Op.call { callee := Go.Callee.value (Go.Operand.func 35), args := #[Go.Operand.tmp 101, Go.Operand.tmp 105], argTypes := #[38, 9] }, type := 3, pos := "exact.go:54", after := #[{ on := 20, ground := Go.Ground.data }, { on := 24, ground := Go.Ground.data }, { on := 19, ground := Go.Ground.chain }, { on := 13, ground := Go.Ground.guard }], guard := some (13, false) }, { dst := some 107, op := Go.Op.binOp Go.BinOp.geq 3 (Go.Operand.tmp 106) (Go.Operand.const (Go.Value.int Go.IntKind.i64 0)) 3, type := 4, pos := "exact.go:54", after := #[{ on := 25, ground := Go.Ground.data }, { on := 13, ground := Go.Ground.guard }], guard := some (13, false) }, { dst := some 108, op := Go.Op.binOp Go.BinOp.neq 4 (Go.Operand.tmp 100) (Go.Operand.tmp 107) 4, type := 4, pos := "exact.go:54", after := #[{ on := 19, ground := Go.Ground.data }, { on := 26, ground := Go.Ground.data }, { on := 13, ground := Go.Ground.guard }], guard := some (13, false) }, { dst := some 109, op := Go.Op.pick (Go.Operand.tmp 94) (Go.Operand.const (Go.Value.bool true)) (Go.Operand.tmp 108), type := 4, pos := "exact.go:54", after := #[{ on := 13, ground := Go.Ground.data }, { on := 27, ground := Go.Ground.data }], guard := none }, { dst := some 110, op := Go.Op.move (Go.Operand.tmp 109), type := 4, pos := "exact.go:54", after := #[{ on := 28, ground := Go.Ground.data }, { on := 25, ground := Go.Ground.chain }], guard := none }, { dst := some 111, op := Go.Op.move (Go.Operand.tmp 0), type := 24, pos := "exact.go:54", after := #[{ on := 29, ground := Go.Ground.guard }], guard := some (29, false) }, { dst := some 112, op := Go.Op.move (Go.Operand.tmp 11), type := 30, pos := "exact.go:54", after := #[{ on := 29, ground := Go.Ground.guard }], guard := some (29, false) }, { dst := some 113, op := Go.Op.move (Go.Operand.tmp 12), type := 3, pos := "exact.go:54", after := #[{ on := 29, ground := Go.Ground.guard }], guard := some (29, false) }, { dst := some 114, op := Go.Op.indexAddr 30 (Go.Operand.tmp 112) (Go.Operand.tmp 113), type := 0, pos := "exact.go:54", after := #[{ on := 31, ground := Go.Ground.data }, { on := 32, ground := Go.Ground.data }, { on := 29, ground := Go.Ground.guard }], guard := some (29, false) }, { dst := some 115, op := Go.Op.load 9 (Go.Operand.tmp 114), type := 9, pos := "exact.go:54", after := #[{ on := 33, ground := Go.Ground.data }, { on := 29, ground := Go.Ground.guard }], guard := some (29, false) }, { dst := some 116, op := Go.Op.call { callee := Go.Callee.value (Go.Operand.func 13), args := #[Go.Operand.tmp 111, Go.Operand.tmp 115], argTypes := #[24, 9] }, type := 30, pos := "exact.go:54", after := #[{ on := 30, ground := Go.Ground.data }, { on := 34, ground := Go.Ground.data }, { on := 29, ground := Go.Ground.chain }, { on := 29, ground := Go.Ground.guard }], guard := some (29, false) }, { dst := some 117, op := Go.Op.move (Go.Operand.tmp 1), type := 38, pos := "exact.go:54", after := #[{ on := 29, ground := Go.Ground.guard }], guard := some (29, false) }, { dst := some 118, op := Go.Op.move (Go.Operand.tmp 11), type := 30, pos := "exact.go:54", after := #[{ on := 29, ground := Go.Ground.guard }], guard := some (29, false) }, { dst := some 119, op := Go.Op.move (Go.Operand.tmp 12), type := 3, pos := "exact.go:54", after := #[{ on := 29, ground := Go.Ground.guard }], guard := some (29, false) }, { dst := some 120, op := Go.Op.indexAddr 30 (Go.Operand.tmp 118) (Go.Operand.tmp 119), type := 0, pos := "exact.go:54", after := #[{ on := 37, ground := Go.Ground.data }, { on := 38, ground := Go.Ground.data }, { on := 29, ground := Go.Ground.guard }], guard := some (29, false) }, { dst := some 121, op := Go.Op.load 9 (Go.Operand.tmp 120), type := 9, pos := "exact.go:54", after := #[{ on := 39, ground := Go.Ground.data }, { on := 29, ground := Go.Ground.guard }], guard := some (29, false) }, { dst := some 122, op := Go.Op.call { callee := Go.Callee.value (Go.Operand.func 39), args := #[Go.Operand.tmp 117, Go.Operand.tmp 121], argTypes := #[38, 9] }, type := 30, pos := "exact.go:54", after := #[{ on := 36, ground := Go.Ground.data }, { on := 40, ground := Go.Ground.data }, { on := 35, ground := Go.Ground.chain }, { on := 29, ground := Go.Ground.guard }], guard := some (29, false) }, { dst := some 123, op := Go.Op.call { callee := Go.Callee.value (Go.Operand.func 25), args := #[Go.Operand.tmp 116, Go.Operand.tmp 122], argTypes := #[30, 30] }, type := 4, pos := "exact.go:54", after := #[{ on := 35, ground := Go.Ground.data }, { on := 41, ground := Go.Ground.data }, { on := 41, ground := Go.Ground.chain }, { on := 29, ground := Go.Ground.guard }], guard := some (29, false) }, { dst := some 124, op := Go.Op.unOp Go.UnOp.not 4 (Go.Operand.tmp 123), type := 4, pos := "exact.go:54", after := #[{ on := 42, ground := Go.Ground.data }, { on := 29, ground := Go.Ground.guard }], guard := some (29, false) }, { dst := some 125, op := Go.Op.pick (Go.Operand.tmp 110) (Go.Operand.const (Go.Value.bool true)) (Go.Operand.tmp 124), type := 4, pos := "exact.go:54", after := #[{ on := 29, ground := Go.Ground.data }, { on := 43, ground := Go.Ground.data }], guard := none }]
set_option maxRecDepth 100000 in
set_option maxHeartbeats 2000000 in
theorem alike1 {Q : Exit → Act → World → Prop} (a : Act) (W : World) {f r n0 m0 : Nat} {vT vN : Value} {L : Row} (hsz : a.tmps.size = 153) (h0 : a.tmps.getD 0 undef = .pointer (some ⟨f, 0, none⟩)) (h1 : a.tmps.getD 1 undef = .pointer (some ⟨r, 0, none⟩)) (hf : FB n0 W f L) (hr : RO m0 W r vT vN L) (hl : L.length ≤ 1000)
    (hQ : ∀ c (a : Act) (d : Nat) v w, Q (.panic c) (a.put (some d) v) w → Q (.panic c) a w)
    (h : ∀ v W', Below W.heap.size W W' → Q .normal (Reg.ov a [(28, .bool false), (27, .bool true), (22, v), (26, vT), (25, (.pointer (some ⟨r, 0, none⟩))), (24, (.pointer (some ⟨r, 0, none⟩))), (23, (.pointer (some ⟨r, 0, none⟩))), (21, (.pointer (some ⟨f, 0, none⟩)))]) W') :
    (Code.region 1 opsL1 true).wp Tryz.prog Q a W := by
  have hS : Below W.heap.size W W.drew := ⟨rfl, rfl, rfl, Nat.le_refl _, fun _ _ => rfl⟩
  have hkl := ks_len L
  refine Rs.start (fun w => Below W.heap.size W w) (by kernel_rfl) ?_
  refine Rs.take hQ 0 _ 21 (.pointer (some ⟨f, 0, none⟩)) rfl (by kernel_rfl) rfl rfl rfl hS (fun w' hw => Reg.mv rfl h0) ?_
  refine Rs.take hQ 2 _ 23 (.pointer (some ⟨r, 0, none⟩)) rfl (by kernel_rfl) rfl (by simp only [Reg.inB, hsz]; rfl) rfl hS (fun w' hw => Reg.mv rfl h1) ?_
  refine Rs.take hQ 3 _ 24 (.pointer (some ⟨r, 0, none⟩)) rfl (by kernel_rfl) rfl (by simp only [Reg.inB, hsz]; rfl) rfl hS (fun w' hw => Reg.nc rfl rfl) ?_
  refine Rs.take hQ 4 _ 25 (.pointer (some ⟨r, 0, none⟩)) rfl (by kernel_rfl) rfl (by simp only [Reg.inB, hsz]; rfl) rfl hS (fun w' hw => Reg.fa rfl rfl (.inl rfl)) ?_
  refine Rs.take hQ 5 _ 26 vT rfl (by kernel_rfl) rfl (by simp only [Reg.inB, hsz]; rfl) rfl hS (fun w' hw => Reg.ldS rfl rfl (hr.later hw).c0 (Tryz.isAgg30 _)) ?_
  refine Rs.call 1 _ 22 12 _ _ #[(.pointer (some ⟨f, 0, none⟩))] rfl (by kernel_rfl) rfl (by simp only [Reg.inB, hsz]; rfl) rfl rfl (by kernel_rfl) (by kernel_rfl) (allB (hf.later hS) (by omega)) ?_
  rintro e W1 ⟨v, rfl, o1, b1⟩
  have b1' : Below W.heap.size W W1 := hS.trans (b1.mono (Nat.le_refl _))
  refine ⟨v, rfl, b1', ?_⟩
  refine Rs.call 6 _ 27 25 _ _ #[v, vT] rfl (by kernel_rfl) rfl (by simp only [Reg.inB, hsz]; rfl) rfl rfl (by kernel_rfl) (by kernel_rfl) (texts_own o1 (hr.later b1').tags (by omega)) ?_
  rintro e W2 ⟨rfl, b2⟩
  have b2' : Below W.heap.size W W2 := b1'.trans (b2.mono b1'.size)
  refine ⟨_, rfl, b2', ?_⟩
  refine Rs.take hQ 7 _ 28 (.bool false) rfl (by kernel_rfl) rfl (by simp only [Reg.inB, hsz]; rfl) rfl b2' (fun w' hw => Reg.nt rfl rfl) ?_
  refine Rs.done (by kernel_rfl) ?_
  exact h v W2 b2'
set_option maxRecDepth 100000 in
set_option maxHeartbeats 4000000 in
theorem alike13 {Q : Exit → Act → World → Prop} (a : Act) (W : World) {f r n0 m0 g n cap i : Nat} {vT vN : Value} {L : Row} {nx t : Tx} {mr : Bool} {er : Int} (hsz : a.tmps.size = 153) (h0 : a.tmps.getD 0 undef = .pointer (some ⟨f, 0, none⟩)) (h1 : a.tmps.getD 1 undef = .pointer (some ⟨r, 0, none⟩))
    (h11 : a.tmps.getD 11 undef = .slice (some ⟨g, 0, none⟩) n cap) (h12 : a.tmps.getD 12 undef = .int .i64 (i : Int)) (h13 : a.tmps.getD 13 undef = tx nx) (h14 : a.tmps.getD 14 undef = .bool mr) (h15 : a.tmps.getD 15 undef = .int .i64 er) (h16 : a.tmps.getD 16 undef = tx nx) (h17 : a.tmps.getD 17 undef = .bool mr) (h18 : a.tmps.getD 18 undef = .int .i64 er)
    (hf : FB n0 W f L) (hr : RO m0 W r vT vN L) (hl : L.length ≤ 1000) (hA : AF W) (hin : i < n) (hc : W.cell? ⟨g, i, none⟩ = some (tx t)) (ht : t.length ≤ 60)
    (hQ : ∀ c (a : Act) (d : Nat) v w, Q (.panic c) (a.put (some d) v) w → Q (.panic c) a w)
    (h : ∀ v1 v2 W', Below W.heap.size W W' → Q .normal (Reg.ov a [(125, (.bool false)), (124, (.bool false)), (123, (.bool true)), (122, v2), (116, v1), (121, (tx t)), (120, (.pointer (some ⟨g, i, none⟩))), (119, (.int .i64 (i : Int))), (118, (.slice (some ⟨g, 0, none⟩) n cap)), (117, (.pointer (some ⟨r, 0, none⟩))), (115, (tx t)), (114, (.pointer (some ⟨g, i, none⟩))), (113, (.int .i64 (i : Int))), (112, (.slice (some ⟨g, 0, none⟩) n cap)), (111, (.pointer (some ⟨f, 0, none⟩))), (110, (.bool false)), (109, (.bool false)), (108, (.bool false)), (107, (.bool (has L t))), (106, (.int .i64 (plI L t))), (100, (.bool (has L t))), (105, (tx t)), (104, (.pointer (some ⟨g, i, none⟩))), (103, (.int .i64 (i : Int))), (102, (.slice (some ⟨g, 0, none⟩) n cap)), (101, (.pointer (some ⟨r, 0, none⟩))), (99, (tx t)), (98, (.pointer (some ⟨g, i, none⟩))), (97, (.int .i64 (i : Int))), (96, (.slice (some ⟨g, 0, none⟩) n cap)), (95, (.pointer (some ⟨f, 0, none⟩))), (94, (.bool false)), (93, (.bool false)), (92, (.bool false)), (91, (.int .i64 er)), (90, (.int .i64 er)), (89, (.bool false)), (88, (.bool false)), (87, (.bool false)), (86, (.bool mr)), (85, (.bool mr)), (84, (.bool false)), (83, (.bool false)), (82, (tx nx)), (81, (tx nx))]) W') :
    (Code.region 13 opsL13 true).wp Tryz.prog Q a W := by
  have hS : Below W.heap.size W W.drew := ⟨rfl, rfl, rfl, Nat.le_refl _, fun _ _ => rfl⟩
  refine Rs.start (fun w => Below W.heap.size W w) (by kernel_rfl) ?_
  refine Rs.take hQ 0 _ 81 (tx nx) rfl (by kernel_rfl) rfl rfl rfl hS (fun w' hw => Reg.mv rfl h13) ?_
  refine Rs.take hQ 1 _ 82 (tx nx) rfl (by kernel_rfl) rfl (by simp only [Reg.inB, hsz]; rfl) rfl hS (fun w' hw => Reg.mv rfl h16) ?_
  refine Rs.take hQ 2 _ 83 (.bool false) rfl (by kernel_rfl) rfl (by simp only [Reg.inB, hsz]; rfl) rfl hS (fun w' hw => Reg.neS rfl rfl rfl) ?_
  refine Rs.take hQ 3 _ 84 (.bool false) rfl (by kernel_rfl) rfl (by simp only [Reg.inB, hsz]; rfl) rfl hS (fun w' hw => Reg.mv rfl rfl) ?_
  refine Rs.take hQ 4 _ 85 (.bool mr) rfl (by kernel_rfl) rfl (by simp only [Reg.inB, hsz]; rfl) (by unfold Reg.wantB; rw [hsz]; kernel_rfl) hS (fun w' hw => Reg.mv rfl h14) ?_
  refine Rs.take hQ 5 _ 86 (.bool mr) rfl (by kernel_rfl) rfl (by simp only [Reg.inB, hsz]; rfl) (by unfold Reg.wantB; rw [hsz]; kernel_rfl) hS (fun w' hw => Reg.mv rfl h17) ?_
  refine Rs.take hQ 6 _ 87 (.bool false) rfl (by kernel_rfl) rfl (by simp only [Reg.inB, hsz]; rfl) (by unfold Reg.wantB; rw [hsz]; kernel_rfl) hS (fun w' hw => Reg.neB rfl rfl rfl) ?_
  refine Rs.take hQ 7 _ 88 (.bool false) rfl (by kernel_rfl) rfl (by simp only [Reg.inB, hsz]; rfl) rfl hS (fun w' hw => Reg.pk rfl rfl rfl) ?_
  refine Rs.take hQ 8 _ 89 (.bool false) rfl (by kernel_rfl) rfl (by simp only [Reg.inB, hsz]; rfl) rfl hS (fun w' hw => Reg.mv rfl rfl) ?_
  refine Rs.take hQ 9 _ 90 (.int .i64 er) rfl (by kernel_rfl) rfl (by simp only [Reg.inB, hsz]; rfl) (by unfold Reg.wantB; rw [hsz]; kernel_rfl) hS (fun w' hw => Reg.mv rfl h15) ?_
  refine Rs.take hQ 10 _ 91 (.int .i64 er) rfl (by kernel_rfl) rfl (by simp only [Reg.inB, hsz]; rfl) (by unfold Reg.wantB; rw [hsz]; kernel_rfl) hS (fun w' hw => Reg.mv rfl h18) ?_
  refine Rs.take hQ 11 _ 92 (.bool false) rfl (by kernel_rfl) rfl (by simp only [Reg.inB, hsz]; rfl) (by unfold Reg.wantB; rw [hsz]; kernel_rfl) hS (fun w' hw => Reg.neI rfl rfl rfl) ?_
  refine Rs.take hQ 12 _ 93 (.bool false) rfl (by kernel_rfl) rfl (by simp only [Reg.inB, hsz]; rfl) rfl hS (fun w' hw => Reg.pk rfl rfl rfl) ?_
  refine Rs.take hQ 13 _ 94 (.bool false) rfl (by kernel_rfl) rfl (by simp only [Reg.inB, hsz]; rfl) rfl hS (fun w' hw => Reg.mv rfl rfl) ?_
  refine Rs.take hQ 14 _ 95 (.pointer (some ⟨f, 0, none⟩)) rfl (by kernel_rfl) rfl (by simp only [Reg.inB, hsz]; rfl) (by unfold Reg.wantB; rw [hsz]; kernel_rfl) hS (fun w' hw => Reg.mv rfl h0) ?_
  refine Rs.take hQ 15 _ 96 (.slice (some ⟨g, 0, none⟩) n cap) rfl (by kernel_rfl) rfl (by simp only [Reg.inB, hsz]; rfl) (by unfold Reg.wantB; rw [hsz]; kernel_rfl) hS (fun w' hw => Reg.mv rfl h11) ?_
  refine Rs.take hQ 16 _ 97 (.int .i64 (i : Int)) rfl (by kernel_rfl) rfl (by simp only [Reg.inB, hsz]; rfl) (by unfold Reg.wantB; rw [hsz]; kernel_rfl) hS (fun w' hw => Reg.mv rfl h12) ?_
  refine Rs.take hQ 17 _ 98 (.pointer (some ⟨g, i, none⟩)) rfl (by kernel_rfl) rfl (by simp only [Reg.inB, hsz]; rfl) (by unfold Reg.wantB; rw [hsz]; kernel_rfl) hS (fun w' hw => ix0 rfl rfl rfl hin) ?_
  refine Rs.take hQ 18 _ 99 (tx t) rfl (by kernel_rfl) rfl (by simp only [Reg.inB, hsz]; rfl) (by unfold Reg.wantB; rw [hsz]; kernel_rfl) hS (fun w' hw => Reg.ldS rfl rfl (cell_later hw hc) (Tryz.isAgg9 _)) ?_
  refine Rs.take hQ 20 _ 101 (.pointer (some ⟨r, 0, none⟩)) rfl (by kernel_rfl) rfl (by simp only [Reg.inB, hsz]; rfl) (by unfold Reg.wantB; rw [hsz]; kernel_rfl) hS (fun w' hw => Reg.mv rfl h1) ?_
  refine Rs.take hQ 21 _ 102 (.slice (some ⟨g, 0, none⟩) n cap) rfl (by kernel_rfl) rfl (by simp only [Reg.inB, hsz]; rfl) (by unfold Reg.wantB; rw [hsz]; kernel_rfl) hS (fun w' hw => Reg.mv rfl h11) ?_
  refine Rs.take hQ 22 _ 103 (.int .i64 (i : Int)) rfl (by kernel_rfl) rfl (by simp only [Reg.inB, hsz]; rfl) (by unfold Reg.wantB; rw [hsz]; kernel_rfl) hS (fun w' hw => Reg.mv rfl h12) ?_
  refine Rs.take hQ 23 _ 104 (.pointer (some ⟨g, i, none⟩)) rfl (by kernel_rfl) rfl (by simp only [Reg.inB, hsz]; rfl) (by unfold Reg.wantB; rw [hsz]; kernel_rfl) hS (fun w' hw => ix0 rfl rfl rfl hin) ?_
  refine Rs.take hQ 24 _ 105 (tx t) rfl (by kernel_rfl) rfl (by simp only [Reg.inB, hsz]; rfl) (by unfold Reg.wantB; rw [hsz]; kernel_rfl) hS (fun w' hw => Reg.ldS rfl rfl (cell_later hw hc) (Tryz.isAgg9 _)) ?_
  refine Rs.call 19 _ 100 17 _ _ #[(.pointer (some ⟨f, 0, none⟩)), tx t] rfl (by kernel_rfl) rfl (by simp only [Reg.inB, hsz]; rfl) (by unfold Reg.wantB; rw [hsz]; kernel_rfl) rfl (by kernel_rfl) (by kernel_rfl) (hasFB (hf.later hS) t (by omega)) ?_
  rintro e W1 ⟨rfl, b1⟩
  have b1' : Below W.heap.size W W1 := hS.trans (b1.mono (Nat.le_refl _))
  refine ⟨_, rfl, b1', ?_⟩
  refine Rs.call 25 _ 106 35 _ _ #[(.pointer (some ⟨r, 0, none⟩)), tx t] rfl (by kernel_rfl) rfl (by simp only [Reg.inB, hsz]; rfl) (by unfold Reg.wantB; rw [hsz]; kernel_rfl) rfl (by kernel_rfl) (by kernel_rfl) (place_any (hr.later b1') hl t) ?_
  rintro e W2 ⟨rfl, b2⟩
  have b2' : Below W.heap.size W W2 := b1'.trans (b2.mono b1'.size)
  refine ⟨_, rfl, b2', ?_⟩
  refine Rs.take hQ 26 _ 107 (.bool (has L t)) rfl (by kernel_rfl) rfl (by simp only [Reg.inB, hsz]; rfl) (by unfold Reg.wantB; rw [hsz]; kernel_rfl) b2' (fun w' hw => Reg.geI rfl rfl rfl (plI_has L t)) ?_
  refine Rs.take hQ 27 _ 108 (.bool false) rfl (by kernel_rfl) rfl (by simp only [Reg.inB, hsz]; rfl) (by unfold Reg.wantB; rw [hsz]; kernel_rfl) b2' (fun w' hw => Reg.neB rfl rfl rfl) ?_
  refine Rs.take hQ 28 _ 109 (.bool false) rfl (by kernel_rfl) rfl (by simp only [Reg.inB, hsz]; rfl) rfl b2' (fun w' hw => Reg.pk rfl rfl rfl) ?_
  refine Rs.take hQ 29 _ 110 (.bool false) rfl (by kernel_rfl) rfl (by simp only [Reg.inB, hsz]; rfl) rfl b2' (fun w' hw => Reg.mv rfl rfl) ?_
  refine Rs.take hQ 30 _ 111 (.pointer (some ⟨f, 0, none⟩)) rfl (by kernel_rfl) rfl (by simp only [Reg.inB, hsz]; rfl) (by unfold Reg.wantB; rw [hsz]; kernel_rfl) b2' (fun w' hw => Reg.mv rfl h0) ?_
  refine Rs.take hQ 31 _ 112 (.slice (some ⟨g, 0, none⟩) n cap) rfl (by kernel_rfl) rfl (by simp only [Reg.inB, hsz]; rfl) (by unfold Reg.wantB; rw [hsz]; kernel_rfl) b2' (fun w' hw => Reg.mv rfl h11) ?_
  refine Rs.take hQ 32 _ 113 (.int .i64 (i : Int)) rfl (by kernel_rfl) rfl (by simp only [Reg.inB, hsz]; rfl) (by unfold Reg.wantB; rw [hsz]; kernel_rfl) b2' (fun w' hw => Reg.mv rfl h12) ?_
  refine Rs.take hQ 33 _ 114 (.pointer (some ⟨g, i, none⟩)) rfl (by kernel_rfl) rfl (by simp only [Reg.inB, hsz]; rfl) (by unfold Reg.wantB; rw [hsz]; kernel_rfl) b2' (fun w' hw => ix0 rfl rfl rfl hin) ?_
  refine Rs.take hQ 34 _ 115 (tx t) rfl (by kernel_rfl) rfl (by simp only [Reg.inB, hsz]; rfl) (by unfold Reg.wantB; rw [hsz]; kernel_rfl) b2' (fun w' hw => Reg.ldS rfl rfl (cell_later hw hc) (Tryz.isAgg9 _)) ?_
  refine Rs.take hQ 36 _ 117 (.pointer (some ⟨r, 0, none⟩)) rfl (by kernel_rfl) rfl (by simp only [Reg.inB, hsz]; rfl) (by unfold Reg.wantB; rw [hsz]; kernel_rfl) b2' (fun w' hw => Reg.mv rfl h1) ?_
  refine Rs.take hQ 37 _ 118 (.slice (some ⟨g, 0, none⟩) n cap) rfl (by kernel_rfl) rfl (by simp only [Reg.inB, hsz]; rfl) (by unfold Reg.wantB; rw [hsz]; kernel_rfl) b2' (fun w' hw => Reg.mv rfl h11) ?_
  refine Rs.take hQ 38 _ 119 (.int .i64 (i : Int)) rfl (by kernel_rfl) rfl (by simp only [Reg.inB, hsz]; rfl) (by unfold Reg.wantB; rw [hsz]; kernel_rfl) b2' (fun w' hw => Reg.mv rfl h12) ?_
  refine Rs.take hQ 39 _ 120 (.pointer (some ⟨g, i, none⟩)) rfl (by kernel_rfl) rfl (by simp only [Reg.inB, hsz]; rfl) (by unfold Reg.wantB; rw [hsz]; kernel_rfl) b2' (fun w' hw => ix0 rfl rfl rfl hin) ?_
  refine Rs.take hQ 40 _ 121 (tx t) rfl (by kernel_rfl) rfl (by simp only [Reg.inB, hsz]; rfl) (by unfold Reg.wantB; rw [hsz]; kernel_rfl) b2' (fun w' hw => Reg.ldS rfl rfl (cell_later hw hc) (Tryz.isAgg9 _)) ?_
  refine Rs.call 35 _ 116 13 _ _ #[(.pointer (some ⟨f, 0, none⟩)), tx t] rfl (by kernel_rfl) rfl (by simp only [Reg.inB, hsz]; rfl) (by unfold Reg.wantB; rw [hsz]; kernel_rfl) rfl (by kernel_rfl) (by kernel_rfl) (underB (hf.later b2') (by omega) (hA.later b2') t) ?_
  rintro e W3 ⟨v1, rfl, o3, b3⟩
  have b3' : Below W.heap.size W W3 := b2'.trans (b3.mono b2'.size)
  refine ⟨_, rfl, b3', ?_⟩
  refine Rs.call 41 _ 122 39 _ _ #[(.pointer (some ⟨r, 0, none⟩)), tx t] rfl (by kernel_rfl) rfl (by simp only [Reg.inB, hsz]; rfl) (by unfold Reg.wantB; rw [hsz]; kernel_rfl) rfl (by kernel_rfl) (by kernel_rfl) (refUnder_any (hr.later b3') hl t) ?_
  rintro e W4 ⟨v2, rfl, o4, b4⟩
  have b4' : Below W.heap.size W W4 := b3'.trans (b4.mono b3'.size)
  refine ⟨_, rfl, b4', ?_⟩
  refine Rs.call 42 _ 123 25 _ _ #[v1, v2] rfl (by kernel_rfl) rfl (by simp only [Reg.inB, hsz]; rfl) (by unfold Reg.wantB; rw [hsz]; kernel_rfl) rfl (by kernel_rfl) (by kernel_rfl) (texts_own (o3.later b4) o4 (by have h1 := List.length_filter_le (hasB L t) (ks L); rw [← under_has, ks_len] at h1; omega)) ?_
  rintro e W5 ⟨rfl, b5⟩
  have b5' : Below W.heap.size W W5 := b4'.trans (b5.mono b4'.size)
  refine ⟨_, rfl, b5', ?_⟩
  refine Rs.take hQ 43 _ 124 (.bool false) rfl (by kernel_rfl) rfl (by simp only [Reg.inB, hsz]; rfl) (by unfold Reg.wantB; rw [hsz]; kernel_rfl) b5' (fun w' hw => Reg.nt rfl rfl) ?_
  refine Rs.take hQ 44 _ 125 (.bool false) rfl (by kernel_rfl) rfl (by simp only [Reg.inB, hsz]; rfl) rfl b5' (fun w' hw => Reg.pk rfl rfl rfl) ?_
  refine Rs.done (by kernel_rfl) ?_
  exact h v1 v2 W5 b5'
end C
end Go.Proofs.YtbeihgjonhgfmaaGreatDoor
