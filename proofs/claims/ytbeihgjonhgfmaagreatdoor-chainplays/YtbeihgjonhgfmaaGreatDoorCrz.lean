/- ChainPlays: both forests side by side; its regions that draw their order. -/
import Derived.Test.YtbeihgjonhgfmaaGreatDoorCry
namespace Go.Proofs.YtbeihgjonhgfmaaGreatDoor
open Go.RowKit Go.Shelf Go.Maps
theorem Reg.eqJ {w : World} {ρ : Operand → Value} {o : Oper} {x y : Operand} {m n : Int} {b : Bool} (hop : o.op = .binOp .eql 26 x y 26) (hx : ρ x = .int .i64 m) (hy : ρ y = .int .i64 n) (hb : (m == n) = b) :
    (execOp ρ o).run Tryz.prog w = .ok (.value (.bool b)) w := by
  obtain ⟨dst, op, type, pos, after, guard⟩ := o
  simp only at hop
  subst hop
  simp [execOp, hx, hy, eqGuard, binOp_eql, Sem.run_pure, hb]
namespace C
/-- What is no forest of the program's is as it was. -/
def KT (w W' : World) : Prop := ∀ (k : Nat) (cs : Array Value) (t : TypeId) (fz : Nat × Nat), w.heap[k]? = some (Obj.cells cs t fz) → t ≠ 61 → W'.heap[k]? = some (Obj.cells cs t fz)
theorem KT.alt {w W' : World} {a : Nat} {mb : Option Nat} {L : Row} (h : FO w a mb L) (al : Alt w W' a mb) : KT w W' := fun k cs t fz hk ht => by
  refine (al.block k (Array.getElem?_eq_some_iff.1 hk).1 (fun e => ?_) (fun e => ?_)).trans hk
  · rw [e, h.box] at hk
    injection hk with hk
    injection hk with _ hk _
    exact ht hk.symm
  · have := h.map
    rw [e] at this
    obtain ⟨es, c, hb, _⟩ := this
    rw [hb] at hk
    cases hk
theorem RO.kt {n0 : Nat} {w W' : World} {a : Nat} {vT vN : Value} {L : Row} (h : RO n0 w a vT vN L) (hk : KT w W') : RO n0 W' a vT vN L := by
  have hne : ∀ {v : Value} {ss : List Tx}, OwnN w n0 v ss → ∀ k, v.ownBlock = some k → W'.heap[k]? = w.heap[k]? := fun hO k e => by
    obtain ⟨_, _, cur, hcur⟩ := own_ty hO e
    exact (hk k cur 9 (0, 0) hcur (by decide)).trans hcur.symm
  exact ⟨hk a _ _ _ h.box (by decide), own_keep h.tags (hne h.tags), own_keep h.named (hne h.named), h.apart, h.base, h.srt, h.small⟩
theorem setT {n0 : Nat} {w : World} {a : Nat} {L : Row} (h : FB n0 w a L) (hn0 : n0 ≤ w.heap.size) (k p : Tx) (hkl : k.length ≤ 60) (hpl : p.length ≤ 60) (hn : L.length < 1000) (hA : AF w) :
    Calls Tryz.prog 11 #[.pointer (some ⟨a, 0, none⟩), tx k, tx p] w fun e W' => e = .returned (.int .i64 (if G.isT k = true ∧ (p = [] ∨ G.isT p = true) then 0 else 100)) ∧ FB n0 W' a (setM L k p) ∧ Below n0 w W' ∧ KT w W' := by
  obtain ⟨mb, h1, h2, h3⟩ := h
  refine (setF_any h1 k p (by omega) (by omega) (by omega) hA).mono ?_
  rintro e W' ⟨⟨hk, hp, he, mb', hf, hnu⟩ | ⟨hno, he, hf⟩, al⟩
  · have hh : G.isT k = true ∧ (p = [] ∨ G.isT p = true) := ⟨hk, hp⟩
    unfold setM
    rw [if_pos hh, if_pos hh]
    refine ⟨he, ⟨mb', hf, h2, fun b e => ?_⟩, al.below h2 h3 hn0, KT.alt h1 al⟩
    rcases hnu with hnu | ⟨_, b', e', hb'⟩
    · exact h3 b (hnu ▸ e)
    · rw [e'] at e; cases e; exact Nat.le_trans hn0 hb'
  · unfold setM
    rw [if_neg hno, if_neg hno]
    exact ⟨he, ⟨mb, hf, h2, h3⟩, al.below h2 h3 hn0, KT.alt h1 al⟩
theorem dropT {n0 : Nat} {w : World} {a : Nat} {L : Row} (h : FB n0 w a L) (hn0 : n0 ≤ w.heap.size) (x : Tx) (hx : x.length ≤ 60) :
    Calls Tryz.prog 16 #[.pointer (some ⟨a, 0, none⟩), tx x] w fun e W' => e = .returned (.int .i64 (if has L x then 0 else 240)) ∧ FB n0 W' a (del L x) ∧ Below n0 w W' ∧ KT w W' := by
  obtain ⟨mb, h1, h2, h3⟩ := h
  refine (dropF_any h1 x (by omega)).mono ?_
  rintro e W' ⟨he, hf, al⟩
  exact ⟨he, ⟨mb, hf, h2, h3⟩, al.below h2 h3 hn0, KT.alt h1 al⟩
section
variable {n0 : Nat} {w W' : World} {a f : Nat} {vT vN : Value} {L L' : Row}
/-- What the reference's forest may touch bears its types. -/
theorem Tch.ty (h : RO n0 w a vT vN L) {k : Nat} (hk : Tch a vT vN k) : n0 ≤ k ∧ ∃ cs t fz, w.heap[k]? = some (.cells cs t fz) ∧ (t = 40 ∨ t = 9) := by
  rcases hk with rfl | hk | hk
  · exact ⟨h.base, _, _, _, h.box, .inl rfl⟩
  · obtain ⟨h1, _, cur, hcur⟩ := own_ty h.tags hk
    exact ⟨h1, _, _, _, hcur, .inr rfl⟩
  · obtain ⟨h1, _, cur, hcur⟩ := own_ty h.named hk
    exact ⟨h1, _, _, _, hcur, .inr rfl⟩
theorem Tch.keep (h : RO n0 w a vT vN L) (hc : Chg (Tch a vT vN) w W') {k : Nat} {o : Obj} (hk : w.heap[k]? = some o) (ho : ∀ cs t fz, o = .cells cs t fz → t ≠ 40 ∧ t ≠ 9) : W'.heap[k]? = some o := by
  refine (hc.block k (Array.getElem?_eq_some_iff.1 hk).1 fun e => ?_).trans hk
  obtain ⟨_, cs, t, fz, h1, h2⟩ := Tch.ty h e
  rw [hk] at h1
  injection h1 with h1
  obtain ⟨h3, h4⟩ := ho cs t fz h1
  rcases h2 with h2 | h2
  · exact h3 h2
  · exact h4 h2
theorem Tch.below (h : RO n0 w a vT vN L) (hc : Chg (Tch a vT vN) w W') (hn : n0 ≤ w.heap.size) : Below n0 w W' := hc.below hn fun _ hk => (Tch.ty h hk).1
theorem FB.chg (hf : FB n0 w f L') (h : RO n0 w a vT vN L) (hc : Chg (Tch a vT vN) w W') : FB n0 W' f L' := by
  obtain ⟨mb, h1, h2⟩ := hf
  refine ⟨mb, h1.same ((Tch.keep h hc h1.box fun cs t fz e => by injection e with _ e _; rw [← e]; exact ⟨by decide, by decide⟩).trans h1.box.symm) (fun b e => ?_), h2⟩
  have := h1.map
  rw [e] at this
  obtain ⟨es, c, hb, _⟩ := this
  exact (Tch.keep h hc hb fun cs t fz e => by cases e).trans hb.symm
end
theorem bx1 {W : World} {b : Nat} {u v x : Value} (h : W.heap[b]? = some (.cells #[u, v, x] 29)) : W.cell? ⟨b, 1, none⟩ = some v := by simp [World.cell?, h]
theorem bx2 {W : World} {b : Nat} {u v x : Value} (h : W.heap[b]? = some (.cells #[u, v, x] 29)) : W.cell? ⟨b, 2, none⟩ = some x := by simp [World.cell?, h]
theorem drew_kt {w W' : World} (h : KT w.drew W') : KT w W' := h
def opsP13 : Array Oper := #[{ dst := some 45, op := Go.Op.move (Go.Operand.tmp 5), type := 24, pos := "exact.go:81", after := #[], guard := none }, { dst := some 46, op := Go.Op.fieldAddr 29 (Go.Operand.tmp 8) 1, type := 0, pos := "exact.go:81", after := #[], guard := none }, { dst := some 47, op := Go.Op.load 9 (Go.Operand.tmp 46), type := 9, pos := "exact.go:81", after := #[{ on := 1, ground := Go.Ground.data }], guard := none }, { dst := some 48, op := Go.Op.call { callee := Go.Callee.value (Go.Operand.func 16), args := #[Go.Operand.tmp 45, Go.Operand.tmp 47], argTypes := #[24, 9] }, type := 26, pos := "exact.go:81", after := #[{ on := 0, ground := Go.Ground.data }, { on := 2, ground := Go.Ground.data }], guard := none }, { dst := some 49, op := Go.Op.binOp Go.BinOp.eql 26 (Go.Operand.tmp 48) (Go.Operand.const (Go.Value.int Go.IntKind.i64 0)) 26, type := 4, pos := "exact.go:81", after := #[{ on := 3, ground := Go.Ground.data }], guard := none }, { dst := some 50, op := Go.Op.move (Go.Operand.tmp 6), type := 38, pos := "exact.go:81", after := #[], guard := none }, { dst := some 51, op := Go.Op.fieldAddr 29 (Go.Operand.tmp 8) 1, type := 0, pos := "exact.go:81", after := #[], guard := none }, { dst := some 52, op := Go.Op.load 9 (Go.Operand.tmp 51), type := 9, pos := "exact.go:81", after := #[{ on := 6, ground := Go.Ground.data }], guard := none }, { dst := some 53, op := Go.Op.call { callee := Go.Callee.value (Go.Operand.func 18), args := #[Go.Operand.tmp 50, Go.Operand.tmp 52], argTypes := #[38, 9] }, type := 4, pos := "exact.go:81", after := #[{ on := 5, ground := Go.Ground.data }, { on := 7, ground := Go.Ground.data }, { on := 3, ground := Go.Ground.chain }], guard := none }, { dst := some 54, op := Go.Op.binOp Go.BinOp.neq 4 (Go.Operand.tmp 49) (Go.Operand.tmp 53) 4, type := 4, pos := "exact.go:81", after := #[{ on := 4, ground := Go.Ground.data }, { on := 8, ground := Go.Ground.data }], guard := none }]
def opsP15 : Array Oper := #[{ dst := some 55, op := Go.Op.move (Go.Operand.tmp 5), type := 24, pos := "exact.go:84", after := #[], guard := none }, { dst := some 56, op := Go.Op.fieldAddr 29 (Go.Operand.tmp 8) 1, type := 0, pos := "exact.go:84", after := #[], guard := none }, { dst := some 57, op := Go.Op.load 9 (Go.Operand.tmp 56), type := 9, pos := "exact.go:84", after := #[{ on := 1, ground := Go.Ground.data }], guard := none }, { dst := some 58, op := Go.Op.fieldAddr 29 (Go.Operand.tmp 8) 2, type := 0, pos := "exact.go:84", after := #[], guard := none }, { dst := some 59, op := Go.Op.load 9 (Go.Operand.tmp 58), type := 9, pos := "exact.go:84", after := #[{ on := 3, ground := Go.Ground.data }], guard := none }, { dst := some 60, op := Go.Op.call { callee := Go.Callee.value (Go.Operand.func 11), args := #[Go.Operand.tmp 55, Go.Operand.tmp 57, Go.Operand.tmp 59], argTypes := #[24, 9, 9] }, type := 26, pos := "exact.go:84", after := #[{ on := 0, ground := Go.Ground.data }, { on := 2, ground := Go.Ground.data }, { on := 4, ground := Go.Ground.data }], guard := none }, { dst := some 61, op := Go.Op.move (Go.Operand.tmp 6), type := 38, pos := "exact.go:84", after := #[], guard := none }, { dst := some 62, op := Go.Op.fieldAddr 29 (Go.Operand.tmp 8) 1, type := 0, pos := "exact.go:84", after := #[], guard := none }, { dst := some 63, op := Go.Op.load 9 (Go.Operand.tmp 62), type := 9, pos := "exact.go:84", after := #[{ on := 7, ground := Go.Ground.data }], guard := none }, { dst := some 64, op := Go.Op.fieldAddr 29 (Go.Operand.tmp 8) 2, type := 0, pos := "exact.go:84", after := #[], guard := none }, { dst := some 65, op := Go.Op.load 9 (Go.Operand.tmp 64), type := 9, pos := "exact.go:84", after := #[{ on := 9, ground := Go.Ground.data }], guard := none }, { dst := some 66, op := Go.Op.call { callee := Go.Callee.value (Go.Operand.func 19), args := #[Go.Operand.tmp 61, Go.Operand.tmp 63, Go.Operand.tmp 65], argTypes := #[38, 9, 9] }, type := 3, pos := "exact.go:84", after := #[{ on := 6, ground := Go.Ground.data }, { on := 8, ground := Go.Ground.data }, { on := 10, ground := Go.Ground.data }, { on := 5, ground := Go.Ground.chain }], guard := none }, { dst := some 67, op := Go.Op.binOp Go.BinOp.neq 3 (Go.Operand.tmp 60) (Go.Operand.tmp 66) 3, type := 4, pos := "exact.go:84", after := #[{ on := 5, ground := Go.Ground.data }, { on := 11, ground := Go.Ground.data }], guard := none }]
set_option maxRecDepth 100000 in
set_option maxHeartbeats 2000000 in
theorem plays13 {Q : Exit → Act → World → Prop} (a : Act) (W : World) {f r sb n0 : Nat} {vT vN : Value} {L : Row} {d : Bool} {t p : Tx} (hsz : a.tmps.size = 81) (h5 : a.tmps.getD 5 undef = .pointer (some ⟨f, 0, none⟩)) (h6 : a.tmps.getD 6 undef = .pointer (some ⟨r, 0, none⟩)) (h8 : a.tmps.getD 8 undef = .pointer (some ⟨sb, 0, none⟩))
    (hf : FB n0 W f L) (hr : RO n0 W r vT vN L) (hn0 : n0 ≤ W.heap.size) (hl : L.length < 1000) (hbox : W.heap[sb]? = some (.cells #[.bool d, tx t, tx p] 29)) (ht : t.length ≤ 60)
    (hQ : ∀ c (a : Act) (d : Nat) v w, Q (.panic c) (a.put (some d) v) w → Q (.panic c) a w)
    (h : ∀ W', FB n0 W' f (del L t) → (∃ vT' vN', RO n0 W' r vT' vN' (del L t)) → Below n0 W W' → Q .normal (Reg.ov a [(54, .bool false), (53, .bool (has L t)), (49, .bool (has L t)), (48, .int .i64 (if has L t then 0 else 240)), (52, tx t), (51, (.pointer (some ⟨sb, 1, none⟩))), (50, (.pointer (some ⟨r, 0, none⟩))), (47, tx t), (46, (.pointer (some ⟨sb, 1, none⟩))), (45, (.pointer (some ⟨f, 0, none⟩)))]) W') :
    (Code.region 13 opsP13 true).wp Tryz.prog Q a W := by
  have hS : Below W.heap.size W W.drew := ⟨rfl, rfl, rfl, Nat.le_refl _, fun _ _ => rfl⟩
  refine Rs.start (fun w => w.heap[sb]? = some (.cells #[.bool d, tx t, tx p] 29)) (by kernel_rfl) ?_
  refine Rs.take hQ 0 _ 45 (.pointer (some ⟨f, 0, none⟩)) rfl (by kernel_rfl) rfl rfl rfl hbox (fun w' hw => Reg.mv rfl h5) ?_
  refine Rs.take hQ 1 _ 46 (.pointer (some ⟨sb, 1, none⟩)) rfl (by kernel_rfl) rfl (by simp only [Reg.inB, hsz]; rfl) rfl hbox (fun w' hw => faS rfl h8 (.inr (.inl rfl))) ?_
  refine Rs.take hQ 2 _ 47 (tx t) rfl (by kernel_rfl) rfl (by simp only [Reg.inB, hsz]; rfl) rfl hbox (fun w' hw => Reg.ldS rfl rfl (bx1 hw) (Tryz.isAgg9 _)) ?_
  refine Rs.take hQ 5 _ 50 (.pointer (some ⟨r, 0, none⟩)) rfl (by kernel_rfl) rfl (by simp only [Reg.inB, hsz]; rfl) rfl hbox (fun w' hw => Reg.mv rfl h6) ?_
  refine Rs.take hQ 6 _ 51 (.pointer (some ⟨sb, 1, none⟩)) rfl (by kernel_rfl) rfl (by simp only [Reg.inB, hsz]; rfl) rfl hbox (fun w' hw => faS rfl h8 (.inr (.inl rfl))) ?_
  refine Rs.take hQ 7 _ 52 (tx t) rfl (by kernel_rfl) rfl (by simp only [Reg.inB, hsz]; rfl) rfl hbox (fun w' hw => Reg.ldS rfl rfl (bx1 hw) (Tryz.isAgg9 _)) ?_
  refine Rs.call 3 _ 48 16 _ _ #[(.pointer (some ⟨f, 0, none⟩)), tx t] rfl (by kernel_rfl) rfl (by simp only [Reg.inB, hsz]; rfl) rfl rfl (by kernel_rfl) (by kernel_rfl) (dropT (hf.later hS) hn0 t ht) ?_
  rintro e W1 ⟨rfl, f1, b1, k1⟩
  have r1 := RO.kt hr (drew_kt k1)
  have bx1' := k1 sb _ _ _ hbox (by decide)
  have hn1 : n0 ≤ W1.heap.size := Nat.le_trans hn0 b1.size
  refine ⟨_, rfl, bx1', ?_⟩
  refine Rs.take hQ 4 _ 49 (.bool (has L t)) rfl (by kernel_rfl) rfl (by simp only [Reg.inB, hsz]; rfl) rfl bx1' (fun w' hw => Reg.eqJ rfl rfl rfl (by cases has L t <;> rfl)) ?_
  refine Rs.call 8 _ 53 18 _ _ #[(.pointer (some ⟨r, 0, none⟩)), tx t] rfl (by kernel_rfl) rfl (by simp only [Reg.inB, hsz]; rfl) rfl rfl (by kernel_rfl) (by kernel_rfl) (refDrop_any r1 hn1 (by omega) t) ?_
  rintro e W2 ⟨rfl, r2, c2⟩
  have bx2' := Tch.keep r1 c2 bx1' (fun cs t fz e => by injection e with _ e _; rw [← e]; exact ⟨by decide, by decide⟩)
  have f2 := f1.chg r1 c2
  have b2 := Tch.below r1 c2 hn1
  refine ⟨_, rfl, bx2', ?_⟩
  refine Rs.take hQ 9 _ 54 (.bool false) rfl (by kernel_rfl) rfl (by simp only [Reg.inB, hsz]; rfl) rfl bx2' (fun w' hw => Reg.neB rfl rfl rfl) ?_
  refine Rs.done (by kernel_rfl) ?_
  have b3 := b1.trans b2
  exact h W2 f2 r2 ⟨b3.os, b3.tape, b3.output, b3.size, b3.block⟩
set_option maxRecDepth 100000 in
set_option maxHeartbeats 2000000 in
theorem plays15 {Q : Exit → Act → World → Prop} (a : Act) (W : World) {f r sb n0 : Nat} {vT vN : Value} {L : Row} {d : Bool} {t p : Tx} (hsz : a.tmps.size = 81) (h5 : a.tmps.getD 5 undef = .pointer (some ⟨f, 0, none⟩)) (h6 : a.tmps.getD 6 undef = .pointer (some ⟨r, 0, none⟩)) (h8 : a.tmps.getD 8 undef = .pointer (some ⟨sb, 0, none⟩))
    (hf : FB n0 W f L) (hr : RO n0 W r vT vN L) (hn0 : n0 ≤ W.heap.size) (hl : L.length < 1000) (hbox : W.heap[sb]? = some (.cells #[.bool d, tx t, tx p] 29)) (ht : t.length ≤ 60) (hp : p.length ≤ 60) (hA : AF W)
    (hQ : ∀ c (a : Act) (d : Nat) v w, Q (.panic c) (a.put (some d) v) w → Q (.panic c) a w)
    (h : ∀ W', FB n0 W' f (setM L t p) → (∃ vT' vN', RO n0 W' r vT' vN' (setM L t p)) → Below n0 W W' → Q .normal (Reg.ov a [(67, .bool false), (66, .int .i64 (if G.isT t = true ∧ (p = [] ∨ G.isT p = true) then 0 else 100)), (60, .int .i64 (if G.isT t = true ∧ (p = [] ∨ G.isT p = true) then 0 else 100)), (65, tx p), (64, (.pointer (some ⟨sb, 2, none⟩))), (63, tx t), (62, (.pointer (some ⟨sb, 1, none⟩))), (61, (.pointer (some ⟨r, 0, none⟩))), (59, tx p), (58, (.pointer (some ⟨sb, 2, none⟩))), (57, tx t), (56, (.pointer (some ⟨sb, 1, none⟩))), (55, (.pointer (some ⟨f, 0, none⟩)))]) W') :
    (Code.region 15 opsP15 true).wp Tryz.prog Q a W := by
  have hS : Below W.heap.size W W.drew := ⟨rfl, rfl, rfl, Nat.le_refl _, fun _ _ => rfl⟩
  refine Rs.start (fun w => w.heap[sb]? = some (.cells #[.bool d, tx t, tx p] 29)) (by kernel_rfl) ?_
  refine Rs.take hQ 0 _ 55 (.pointer (some ⟨f, 0, none⟩)) rfl (by kernel_rfl) rfl rfl rfl hbox (fun w' hw => Reg.mv rfl h5) ?_
  refine Rs.take hQ 1 _ 56 (.pointer (some ⟨sb, 1, none⟩)) rfl (by kernel_rfl) rfl (by simp only [Reg.inB, hsz]; rfl) rfl hbox (fun w' hw => faS rfl h8 (.inr (.inl rfl))) ?_
  refine Rs.take hQ 2 _ 57 (tx t) rfl (by kernel_rfl) rfl (by simp only [Reg.inB, hsz]; rfl) rfl hbox (fun w' hw => Reg.ldS rfl rfl (bx1 hw) (Tryz.isAgg9 _)) ?_
  refine Rs.take hQ 3 _ 58 (.pointer (some ⟨sb, 2, none⟩)) rfl (by kernel_rfl) rfl (by simp only [Reg.inB, hsz]; rfl) rfl hbox (fun w' hw => faS rfl h8 (.inr (.inr rfl))) ?_
  refine Rs.take hQ 4 _ 59 (tx p) rfl (by kernel_rfl) rfl (by simp only [Reg.inB, hsz]; rfl) rfl hbox (fun w' hw => Reg.ldS rfl rfl (bx2 hw) (Tryz.isAgg9 _)) ?_
  refine Rs.take hQ 6 _ 61 (.pointer (some ⟨r, 0, none⟩)) rfl (by kernel_rfl) rfl (by simp only [Reg.inB, hsz]; rfl) rfl hbox (fun w' hw => Reg.mv rfl h6) ?_
  refine Rs.take hQ 7 _ 62 (.pointer (some ⟨sb, 1, none⟩)) rfl (by kernel_rfl) rfl (by simp only [Reg.inB, hsz]; rfl) rfl hbox (fun w' hw => faS rfl h8 (.inr (.inl rfl))) ?_
  refine Rs.take hQ 8 _ 63 (tx t) rfl (by kernel_rfl) rfl (by simp only [Reg.inB, hsz]; rfl) rfl hbox (fun w' hw => Reg.ldS rfl rfl (bx1 hw) (Tryz.isAgg9 _)) ?_
  refine Rs.take hQ 9 _ 64 (.pointer (some ⟨sb, 2, none⟩)) rfl (by kernel_rfl) rfl (by simp only [Reg.inB, hsz]; rfl) rfl hbox (fun w' hw => faS rfl h8 (.inr (.inr rfl))) ?_
  refine Rs.take hQ 10 _ 65 (tx p) rfl (by kernel_rfl) rfl (by simp only [Reg.inB, hsz]; rfl) rfl hbox (fun w' hw => Reg.ldS rfl rfl (bx2 hw) (Tryz.isAgg9 _)) ?_
  refine Rs.call 5 _ 60 11 _ _ #[(.pointer (some ⟨f, 0, none⟩)), tx t, tx p] rfl (by kernel_rfl) rfl (by simp only [Reg.inB, hsz]; rfl) rfl rfl (by kernel_rfl) (by kernel_rfl) (setT (hf.later hS) hn0 t p ht hp hl (hA.later hS)) ?_
  rintro e W1 ⟨rfl, f1, b1, k1⟩
  have r1 := RO.kt hr (drew_kt k1)
  have bx1' := k1 sb _ _ _ hbox (by decide)
  have hn1 : n0 ≤ W1.heap.size := Nat.le_trans hn0 b1.size
  refine ⟨_, rfl, bx1', ?_⟩
  refine Rs.call 11 _ 66 19 _ _ #[(.pointer (some ⟨r, 0, none⟩)), tx t, tx p] rfl (by kernel_rfl) rfl (by simp only [Reg.inB, hsz]; rfl) rfl rfl (by kernel_rfl) (by kernel_rfl) (refSet_any r1 hn1 (by omega) t p ht hp) ?_
  rintro e W2 ⟨rfl, r2, c2⟩
  have bx2' := Tch.keep r1 c2 bx1' (fun cs t fz e => by injection e with _ e _; rw [← e]; exact ⟨by decide, by decide⟩)
  have f2 := f1.chg r1 c2
  have b2 := Tch.below r1 c2 hn1
  refine ⟨_, rfl, bx2', ?_⟩
  refine Rs.take hQ 12 _ 67 (.bool false) rfl (by kernel_rfl) rfl (by simp only [Reg.inB, hsz]; rfl) rfl bx2' (fun w' hw => Reg.neI rfl rfl rfl) ?_
  refine Rs.done (by kernel_rfl) ?_
  have b3 := b1.trans b2
  exact h W2 f2 r2 ⟨b3.os, b3.tape, b3.output, b3.size, b3.block⟩
end C
end Go.Proofs.YtbeihgjonhgfmaaGreatDoor
