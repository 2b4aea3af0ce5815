/- The reference's Drop. -/
import Derived.Test.YtbeihgjonhgfmaaGreatDoorCrv
namespace Go.Proofs.YtbeihgjonhgfmaaGreatDoor
open Go.RowKit Go.Shelf Go.Maps
attribute [local go_sem] Oper.semAt_some
namespace C
set_option maxRecDepth 100000 in
theorem cut_to (g n cap k : Nat) (hk : k ≤ cap) (wx : World) : (Instr.sliceAt 30 (.slice (some ⟨g, 0, none⟩) n cap) none (some (.int .i64 (k : Int))) none).run Tryz.prog wx = .ok (.slice (some ⟨g, 0, none⟩) k cap) wx := by
  rw [run_sliceAt_slice (P := Tryz.prog) wx 30 _ _ _ _ Tryz.underlying30, run_slice_h (P := Tryz.prog) (w := wx) 30 (some ⟨g, 0, none⟩) n cap Tryz.underlying30 .i64 (k : Int) (by omega) (by omega), elemSize30]
  simp [Result.andThen, sliced, Addr.add_mid]
/-- A row without one: made anew. -/
theorem cutout (ty ty2 : TypeId) {W : World} {n0 g n cap i : Nat} {A : List Tx} (h : OwnN W n0 (.slice (some ⟨g, 0, none⟩) n cap) A) (hn0 : n0 ≤ W.heap.size) (hi : i < A.length) (hl : A.length ≤ 1000) :
    ∃ v1 W1 v2 W2, (Builtin.append_ #[30, 30] ty #[.slice none 0 0, .slice (some ⟨g, 0, none⟩) i cap]).run Tryz.prog W = .ok v1 W1 ∧ (Builtin.append_ #[30, 30] ty2 #[v1, .slice (cutP g cap (i + 1)) (n - (i + 1)) (cap - (i + 1))]).run Tryz.prog W1 = .ok v2 W2 ∧
      OwnN W2 n0 v2 (A.take i ++ A.drop (i + 1)) ∧ (∀ k, v2.ownBlock = some k → W.heap.size ≤ k) ∧ Chg (fun _ => False) W W1 ∧ Chg (fun _ => False) W W2 := by
  obtain ⟨rfl, _, cur, hcur, hle, _, hsz, htk⟩ := own_parts h
  have hcell : ∀ (V : World), V.heap[g]? = W.heap[g]? → ∀ j (hj : j < A.length), V.cell? ⟨g, j, none⟩ = some (tx A[j]) := fun V hV j hj => by
    refine cell_at (hV.trans hcur) ?_
    have h1 : (cur.toList.take A.length)[j]? = (A.map tx)[j]? := by rw [htk]
    rw [List.getElem?_take, if_pos hj] at h1
    simpa [hj] using h1
  have hlt1 : (A.take i).length = i := by rw [List.length_take]; omega
  obtain ⟨v1, W1, r1, o1, c1, at1⟩ := appR ty (ownN_nil W n0) hn0 (ad := ⟨g, 0, none⟩) cap (xs := A.take i) (fun j hj => by
    rw [hlt1] at hj
    rw [Addr.add_mid, Nat.zero_add, hcell W rfl j (by omega), List.getElem_take]) (by rw [hlt1]; simp; omega)
  rw [hlt1] at r1
  have c1' : Chg (fun _ => False) W W1 := ⟨c1.os, c1.tape, c1.output, c1.size, fun k hk _ => c1.block k hk (fun e => by simp [Value.ownBlock] at e)⟩
  have hg1 : W1.heap[g]? = W.heap[g]? := c1'.block g (Array.getElem?_eq_some_iff.1 hcur).1 id
  have hb1 : ∀ k, v1.ownBlock = some k → W.heap.size ≤ k := fun k hk => by
    rcases at1 with e | e
    · rw [e] at hk; simp [Value.ownBlock] at hk
    · rw [e] at hk; injection hk with hk; omega
  obtain ⟨ad, had, hcd⟩ : ∃ ad, cutP g cap (i + 1) = some ad ∧ ∀ j (hj : j < (A.drop (i + 1)).length), W1.cell? (ad.add j) = some (tx (A.drop (i + 1))[j]) := by
    unfold cutP
    by_cases hc : cap = i + 1
    · rw [if_pos hc]
      exact ⟨_, rfl, fun j hj => by rw [List.length_drop] at hj; omega⟩
    · rw [if_neg hc]
      exact ⟨_, rfl, fun j hj => by
        rw [List.length_drop] at hj
        rw [Addr.add_mid, hcell W1 hg1 (i + 1 + j) (by omega), List.getElem_drop]⟩
  have hl2 : (A.drop (i + 1)).length = A.length - (i + 1) := List.length_drop
  obtain ⟨v2, W2, r2, o2, c2, at2⟩ := appR ty2 o1 (Nat.le_trans hn0 c1.size) (ad := ad) (cap - (i + 1)) (xs := A.drop (i + 1)) hcd (by rw [hl2]; simp; omega)
  rw [hl2] at r2
  refine ⟨v1, W1, v2, W2, r1, by rw [had]; exact r2, by simpa using o2, fun k hk => ?_, c1', c1'.then c2 fun k hk e => by have := hb1 k e; omega⟩
  rcases at2 with e | e
  · exact hb1 k (e ▸ hk)
  · rw [e] at hk; injection hk with hk; have := c1.size; omega
def opsD4 : Array Oper := #[{ dst := some 11, op := Go.Op.move (Go.Operand.tmp 0), type := 38, pos := "hornbookref11.go:58", after := #[], guard := none }, { dst := some 12, op := Go.Op.move (Go.Operand.tmp 0), type := 38, pos := "hornbookref11.go:58", after := #[], guard := none }, { dst := some 13, op := Go.Op.nilCheck (Go.Operand.tmp 12), type := 0, pos := "hornbookref11.go:58", after := #[{ on := 1, ground := Go.Ground.data }], guard := none }, { dst := some 14, op := Go.Op.fieldAddr 40 (Go.Operand.tmp 13) 0, type := 0, pos := "hornbookref11.go:58", after := #[{ on := 2, ground := Go.Ground.data }], guard := none }, { dst := some 15, op := Go.Op.load 30 (Go.Operand.tmp 14), type := 30, pos := "hornbookref11.go:58", after := #[{ on := 3, ground := Go.Ground.data }], guard := none }, { dst := some 16, op := Go.Op.move (Go.Operand.tmp 5), type := 3, pos := "hornbookref11.go:58", after := #[], guard := none }, { dst := some 17, op := Go.Op.slice 30 (Go.Operand.tmp 15) none (some (Go.Operand.tmp 16)) none, type := 30, pos := "hornbookref11.go:58", after := #[{ on := 4, ground := Go.Ground.data }, { on := 5, ground := Go.Ground.data }], guard := none }, { dst := some 18, op := Go.Op.call { callee := Go.Callee.builtin Go.Builtin.append, args := #[Go.Operand.const (Go.Value.slice none 0 0), Go.Operand.tmp 17], argTypes := #[30, 30] }, type := 30, pos := "hornbookref11.go:58", after := #[{ on := 6, ground := Go.Ground.data }], guard := none }, { dst := some 19, op := Go.Op.move (Go.Operand.tmp 0), type := 38, pos := "hornbookref11.go:58", after := #[], guard := none }, { dst := some 20, op := Go.Op.nilCheck (Go.Operand.tmp 19), type := 0, pos := "hornbookref11.go:58", after := #[{ on := 8, ground := Go.Ground.data }], guard := none }, { dst := some 21, op := Go.Op.fieldAddr 40 (Go.Operand.tmp 20) 0, type := 0, pos := "hornbookref11.go:58", after := #[{ on := 9, ground := Go.Ground.data }], guard := none }, { dst := some 22, op := Go.Op.load 30 (Go.Operand.tmp 21), type := 30, pos := "hornbookref11.go:58", after := #[{ on := 10, ground := Go.Ground.data }], guard := none }, { dst := some 23, op := Go.Op.move (Go.Operand.tmp 5), type := 3, pos := "hornbookref11.go:58", after := #[], guard := none }, { dst := some 24, op := Go.Op.binOp Go.BinOp.add 3 (Go.Operand.tmp 23) (Go.Operand.const (Go.Value.int Go.IntKind.i64 1)) 3, type := 3, pos := "hornbookref11.go:58", after := #[{ on := 12, ground := Go.Ground.data }], guard := none }, { dst := some 25, op := Go.Op.slice 30 (Go.Operand.tmp 22) (some (Go.Operand.tmp 24)) none none, type := 30, pos := "hornbookref11.go:58", after := #[{ on := 11, ground := Go.Ground.data }, { on := 13, ground := Go.Ground.data }], guard := none }, { dst := some 26, op := Go.Op.call { callee := Go.Callee.builtin Go.Builtin.append, args := #[Go.Operand.tmp 18, Go.Operand.tmp 25], argTypes := #[30, 30] }, type := 30, pos := "hornbookref11.go:58", after := #[{ on := 7, ground := Go.Ground.data }, { on := 14, ground := Go.Ground.data }, { on := 7, ground := Go.Ground.chain }], guard := none }, { dst := some 27, op := Go.Op.nilCheck (Go.Operand.tmp 11), type := 0, pos := "hornbookref11.go:58", after := #[{ on := 0, ground := Go.Ground.data }, { on := 0, ground := Go.Ground.phase }, { on := 1, ground := Go.Ground.phase }, { on := 2, ground := Go.Ground.phase }, { on := 3, ground := Go.Ground.phase }, { on := 4, ground := Go.Ground.phase }, { on := 5, ground := Go.Ground.phase }, { on := 6, ground := Go.Ground.phase }, { on := 7, ground := Go.Ground.phase }, { on := 8, ground := Go.Ground.phase }, { on := 9, ground := Go.Ground.phase }, { on := 10, ground := Go.Ground.phase }, { on := 11, ground := Go.Ground.phase }, { on := 12, ground := Go.Ground.phase }, { on := 13, ground := Go.Ground.phase }, { on := 14, ground := Go.Ground.phase }, { on := 15, ground := Go.Ground.phase }], guard := none }, { dst := some 28, op := Go.Op.fieldAddr 40 (Go.Operand.tmp 27) 0, type := 0, pos := "hornbookref11.go:58", after := #[{ on := 16, ground := Go.Ground.data }, { on := 0, ground := Go.Ground.phase }, { on := 1, ground := Go.Ground.phase }, { on := 2, ground := Go.Ground.phase }, { on := 3, ground := Go.Ground.phase }, { on := 4, ground := Go.Ground.phase }, { on := 5, ground := Go.Ground.phase }, { on := 6, ground := Go.Ground.phase }, { on := 7, ground := Go.Ground.phase }, { on := 8, ground := Go.Ground.phase }, { on := 9, ground := Go.Ground.phase }, { on := 10, ground := Go.Ground.phase }, { on := 11, ground := Go.Ground.phase }, { on := 12, ground := Go.Ground.phase }, { on := 13, ground := Go.Ground.phase }, { on := 14, ground := Go.Ground.phase }, { on := 15, ground := Go.Ground.phase }], guard := none }, { dst := none, op := Go.Op.store 30 (Go.Operand.tmp 28) (Go.Operand.tmp 26), type := 0, pos := "hornbookref11.go:58", after := #[{ on := 17, ground := Go.Ground.data }, { on := 15, ground := Go.Ground.data }, { on := 15, ground := Go.Ground.chain }, { on := 0, ground := Go.Ground.phase }, { on := 1, ground := Go.Ground.phase }, { on := 2, ground := Go.Ground.phase }, { on := 3, ground := Go.Ground.phase }, { on := 4, ground := Go.Ground.phase }, { on := 5, ground := Go.Ground.phase }, { on := 6, ground := Go.Ground.phase }, { on := 7, ground := Go.Ground.phase }, { on := 8, ground := Go.Ground.phase }, { on := 9, ground := Go.Ground.phase }, { on := 10, ground := Go.Ground.phase }, { on := 11, ground := Go.Ground.phase }, { on := 12, ground := Go.Ground.phase }, { on := 13, ground := Go.Ground.phase }, { on := 14, ground := Go.Ground.phase }, { on := 15, ground := Go.Ground.phase }], guard := none }]
set_option maxRecDepth 100000 in
set_option maxHeartbeats 2000000 in
theorem drop4 {Q : Exit → Act → World → Prop} (a : Act) (W : World) {b n0 g n cap i : Nat} {u : Value} {A : List Tx} (hsz : a.tmps.size = 47) (h0 : a.tmps.getD 0 undef = .pointer (some ⟨b, 0, none⟩)) (h5 : a.tmps.getD 5 undef = .int .i64 (i : Int)) (hbox : W.heap[b]? = some (.cells #[(.slice (some ⟨g, 0, none⟩) n cap), u] 40))
    (hO : OwnN W n0 (.slice (some ⟨g, 0, none⟩) n cap) A) (hi : i < A.length) (hl : A.length ≤ 1000) (hn0 : n0 ≤ W.heap.size) (hQ : ∀ c (a : Act) (d : Nat) v w, Q (.panic c) (a.put (some d) v) w → Q (.panic c) a w)
    (h : ∀ v1 v2 W', W'.heap[b]? = some (.cells #[v2, u] 40) → OwnN W' n0 v2 (A.take i ++ A.drop (i + 1)) → (∀ k, v2.ownBlock = some k → W.heap.size ≤ k) → Chg (fun k => k = b) W W' → Q .normal (Reg.ov a [(28, (.pointer (some ⟨b, 0, none⟩))), (27, (.pointer (some ⟨b, 0, none⟩))), (26, v2), (18, v1), (25, (.slice (cutP g cap (i + 1)) (n - (i + 1)) (cap - (i + 1)))), (24, (.int .i64 ((i + 1 : Nat) : Int))), (23, (.int .i64 (i : Int))), (22, (.slice (some ⟨g, 0, none⟩) n cap)), (21, (.pointer (some ⟨b, 0, none⟩))), (20, (.pointer (some ⟨b, 0, none⟩))), (19, (.pointer (some ⟨b, 0, none⟩))), (17, (.slice (some ⟨g, 0, none⟩) i cap)), (16, (.int .i64 (i : Int))), (15, (.slice (some ⟨g, 0, none⟩) n cap)), (14, (.pointer (some ⟨b, 0, none⟩))), (13, (.pointer (some ⟨b, 0, none⟩))), (12, (.pointer (some ⟨b, 0, none⟩))), (11, (.pointer (some ⟨b, 0, none⟩)))]) W') :
    (Code.region 4 opsD4 true).wp Tryz.prog Q a W := by
  have hii : IntKind.i64.wrap ((i : Int) + 1) = ((i + 1 : Nat) : Int) := by simp [IntKind.wrap, IntKind.bits, IntKind.signed]; omega
  obtain ⟨hnA, _, _, _, hle, _⟩ := own_parts hO
  obtain ⟨v1, W1, v2, W2, r1, r2, o2, hat, c1, c2⟩ := cutout 30 30 (W := W.drew) hO hn0 hi hl
  have hbt := (Array.getElem?_eq_some_iff.1 hbox).1
  have hbx1 : W1.heap[b]? = some (.cells #[(.slice (some ⟨g, 0, none⟩) n cap), u] 40) := (c1.block b hbt id).trans hbox
  have hbx2 : W2.heap[b]? = some (.cells #[(.slice (some ⟨g, 0, none⟩) n cap), u] 40) := (c2.block b hbt id).trans hbox
  have hT0 : (fun w : World => w.heap[b]? = some (.cells #[(.slice (some ⟨g, 0, none⟩) n cap), u] 40)) W.drew := hbox
  refine Rst.start (s := 18) (T := fun w => w.heap[b]? = some (.cells #[(.slice (some ⟨g, 0, none⟩) n cap), u] 40)) (by kernel_rfl) ?_
  refine Rst.takeP hQ 0 _ 11 (.pointer (some ⟨b, 0, none⟩)) rfl (by kernel_rfl) rfl rfl rfl (.inr hT0) (fun w' => Reg.mv rfl h0) ?_
  refine Rst.takeP hQ 1 _ 12 (.pointer (some ⟨b, 0, none⟩)) rfl (by kernel_rfl) rfl (by simp only [Reg.inB, hsz]; rfl) rfl (.inr hT0) (fun w' => Reg.mv rfl h0) ?_
  refine Rst.takeP hQ 2 _ 13 (.pointer (some ⟨b, 0, none⟩)) rfl (by kernel_rfl) rfl (by simp only [Reg.inB, hsz]; rfl) rfl (.inr hT0) (fun w' => Reg.nc rfl rfl) ?_
  refine Rst.takeP hQ 3 _ 14 (.pointer (some ⟨b, 0, none⟩)) rfl (by kernel_rfl) rfl (by simp only [Reg.inB, hsz]; rfl) rfl (.inr hT0) (fun w' => Reg.fa rfl rfl (.inl rfl)) ?_
  refine Rst.take hQ 4 _ 15 (.slice (some ⟨g, 0, none⟩) n cap) rfl (by kernel_rfl) rfl (by simp only [Reg.inB, hsz]; rfl) rfl hT0 (fun w' hw => Reg.ldS rfl rfl (box0 hw) (Tryz.isAgg30 _)) ?_
  refine Rst.takeP hQ 5 _ 16 (.int .i64 (i : Int)) rfl (by kernel_rfl) rfl (by simp only [Reg.inB, hsz]; rfl) rfl (.inr hT0) (fun w' => Reg.mv rfl h5) ?_
  refine Rst.takeP hQ 6 _ 17 (.slice (some ⟨g, 0, none⟩) i cap) rfl (by kernel_rfl) rfl (by simp only [Reg.inB, hsz]; rfl) rfl (.inr hT0) (fun w' => Reg.slTo rfl rfl rfl (cut_to g n cap i (by omega) w')) ?_
  refine Rst.takeP hQ 8 _ 19 (.pointer (some ⟨b, 0, none⟩)) rfl (by kernel_rfl) rfl (by simp only [Reg.inB, hsz]; rfl) rfl (.inr hT0) (fun w' => Reg.mv rfl h0) ?_
  refine Rst.takeP hQ 9 _ 20 (.pointer (some ⟨b, 0, none⟩)) rfl (by kernel_rfl) rfl (by simp only [Reg.inB, hsz]; rfl) rfl (.inr hT0) (fun w' => Reg.nc rfl rfl) ?_
  refine Rst.takeP hQ 10 _ 21 (.pointer (some ⟨b, 0, none⟩)) rfl (by kernel_rfl) rfl (by simp only [Reg.inB, hsz]; rfl) rfl (.inr hT0) (fun w' => Reg.fa rfl rfl (.inl rfl)) ?_
  refine Rst.take hQ 11 _ 22 (.slice (some ⟨g, 0, none⟩) n cap) rfl (by kernel_rfl) rfl (by simp only [Reg.inB, hsz]; rfl) rfl hT0 (fun w' hw => Reg.ldS rfl rfl (box0 hw) (Tryz.isAgg30 _)) ?_
  refine Rst.takeP hQ 12 _ 23 (.int .i64 (i : Int)) rfl (by kernel_rfl) rfl (by simp only [Reg.inB, hsz]; rfl) rfl (.inr hT0) (fun w' => Reg.mv rfl h5) ?_
  refine Rst.takeP hQ 13 _ 24 (.int .i64 ((i + 1 : Nat) : Int)) rfl (by kernel_rfl) rfl (by simp only [Reg.inB, hsz]; rfl) rfl (.inr hT0) (fun w' => Reg.adI rfl rfl rfl hii) ?_
  refine Rst.takeP hQ 14 _ 25 (.slice (cutP g cap (i + 1)) (n - (i + 1)) (cap - (i + 1))) rfl (by kernel_rfl) rfl (by simp only [Reg.inB, hsz]; rfl) rfl (.inr hT0) (fun w' => Reg.sl rfl rfl rfl (cut_from g n cap (i + 1) (by omega) w')) ?_
  refine Rst.one 7 (by simp only [Reg.inB, hsz]; rfl) (by kernel_rfl) ⟨_, rfl, rfl, .inl ⟨18, v1, W1, rfl, Reg.app rfl rfl rfl r1, .inr hbx1, ?_⟩⟩
  refine Rst.one 15 (by simp only [Reg.inB, hsz]; rfl) (by kernel_rfl) ⟨_, rfl, rfl, .inl ⟨26, v2, W2, rfl, Reg.app rfl rfl rfl r2, .inr hbx2, ?_⟩⟩
  refine Rst.one 16 (by simp only [Reg.inB, hsz]; rfl) (by kernel_rfl) ⟨_, rfl, rfl, .inl ⟨27, (.pointer (some ⟨b, 0, none⟩)), _, rfl, Reg.nc rfl rfl, .inr hbx2, ?_⟩⟩
  refine Rst.one 17 (by simp only [Reg.inB, hsz]; rfl) (by kernel_rfl) ⟨_, rfl, rfl, .inl ⟨28, (.pointer (some ⟨b, 0, none⟩)), _, rfl, Reg.fa rfl rfl (.inl rfl), .inr hbx2, ?_⟩⟩
  refine Rst.one 18 (by simp only [Reg.inB, hsz]; rfl) (by kernel_rfl) ⟨_, rfl, rfl, .inr ⟨_, rfl, Reg.st1 rfl rfl rfl (box0 hbx2) (frozen_at hbx2) (.inr (own_slice o2)) (Tryz.sizeOf30 _), .inl (by kernel_rfl), ?_⟩⟩
  refine Rst.done (by kernel_rfl) ?_
  have c3 := Chg.then (p := fun k => k = b) ⟨c2.os, c2.tape, c2.output, c2.size, fun k hk _ => c2.block k hk id⟩ (chg_set W2 b 0 v2) fun _ _ e => e
  exact h v1 v2 _ (set_at (j := 0) v2 hbx2) (own_set o2 hbx2) hat ⟨c3.os, c3.tape, c3.output, c3.size, c3.block⟩
def opsD5 : Array Oper := #[{ dst := some 29, op := Go.Op.move (Go.Operand.tmp 0), type := 38, pos := "hornbookref11.go:59", after := #[], guard := none }, { dst := some 30, op := Go.Op.move (Go.Operand.tmp 0), type := 38, pos := "hornbookref11.go:59", after := #[], guard := none }, { dst := some 31, op := Go.Op.nilCheck (Go.Operand.tmp 30), type := 0, pos := "hornbookref11.go:59", after := #[{ on := 1, ground := Go.Ground.data }], guard := none }, { dst := some 32, op := Go.Op.fieldAddr 40 (Go.Operand.tmp 31) 1, type := 0, pos := "hornbookref11.go:59", after := #[{ on := 2, ground := Go.Ground.data }], guard := none }, { dst := some 33, op := Go.Op.load 30 (Go.Operand.tmp 32), type := 30, pos := "hornbookref11.go:59", after := #[{ on := 3, ground := Go.Ground.data }], guard := none }, { dst := some 34, op := Go.Op.move (Go.Operand.tmp 5), type := 3, pos := "hornbookref11.go:59", after := #[], guard := none }, { dst := some 35, op := Go.Op.slice 30 (Go.Operand.tmp 33) none (some (Go.Operand.tmp 34)) none, type := 30, pos := "hornbookref11.go:59", after := #[{ on := 4, ground := Go.Ground.data }, { on := 5, ground := Go.Ground.data }], guard := none }, { dst := some 36, op := Go.Op.call { callee := Go.Callee.builtin Go.Builtin.append, args := #[Go.Operand.const (Go.Value.slice none 0 0), Go.Operand.tmp 35], argTypes := #[30, 30] }, type := 30, pos := "hornbookref11.go:59", after := #[{ on := 6, ground := Go.Ground.data }], guard := none }, { dst := some 37, op := Go.Op.move (Go.Operand.tmp 0), type := 38, pos := "hornbookref11.go:59", after := #[], guard := none }, { dst := some 38, op := Go.Op.nilCheck (Go.Operand.tmp 37), type := 0, pos := "hornbookref11.go:59", after := #[{ on := 8, ground := Go.Ground.data }], guard := none }, { dst := some 39, op := Go.Op.fieldAddr 40 (Go.Operand.tmp 38) 1, type := 0, pos := "hornbookref11.go:59", after := #[{ on := 9, ground := Go.Ground.data }], guard := none }, { dst := some 40, op := Go.Op.load 30 (Go.Operand.tmp 39), type := 30, pos := "hornbookref11.go:59", after := #[{ on := 10, ground := Go.Ground.data }], guard := none }, { dst := some 41, op := Go.Op.move (Go.Operand.tmp 5), type := 3, pos := "hornbookref11.go:59", after := #[], guard := none }, { dst := some 42, op := Go.Op.binOp Go.BinOp.add 3 (Go.Operand.tmp 41) (Go.Operand.const (Go.Value.int Go.IntKind.i64 1)) 3, type := 3, pos := "hornbookref11.go:59", after := #[{ on := 12, ground := Go.Ground.data }], guard := none }, { dst := some 43, op := Go.Op.slice 30 (Go.Operand.tmp 40) (some (Go.Operand.tmp 42)) none none, type := 30, pos := "hornbookref11.go:59", after := #[{ on := 11, ground := Go.Ground.data }, { on := 13, ground := Go.Ground.data }], guard := none }, { dst := some 44, op := Go.Op.call { callee := Go.Callee.builtin Go.Builtin.append, args := #[Go.Operand.tmp 36, Go.Operand.tmp 43], argTypes := #[30, 30] }, type := 30, pos := "hornbookref11.go:59", after := #[{ on := 7, ground := Go.Ground.data }, { on := 14, ground := Go.Ground.data }, { on := 7, ground := Go.Ground.chain }], guard := none }, { dst := some 45, op := Go.Op.nilCheck (Go.Operand.tmp 29), type := 0, pos := "hornbookref11.go:59", after := #[{ on := 0, ground := Go.Ground.data }, { on := 0, ground := Go.Ground.phase }, { on := 1, ground := Go.Ground.phase }, { on := 2, ground := Go.Ground.phase }, { on := 3, ground := Go.Ground.phase }, { on := 4, ground := Go.Ground.phase }, { on := 5, ground := Go.Ground.phase }, { on := 6, ground := Go.Ground.phase }, { on := 7, ground := Go.Ground.phase }, { on := 8, ground := Go.Ground.phase }, { on := 9, ground := Go.Ground.phase }, { on := 10, ground := Go.Ground.phase }, { on := 11, ground := Go.Ground.phase }, { on := 12, ground := Go.Ground.phase }, { on := 13, ground := Go.Ground.phase }, { on := 14, ground := Go.Ground.phase }, { on := 15, ground := Go.Ground.phase }], guard := none }, { dst := some 46, op := Go.Op.fieldAddr 40 (Go.Operand.tmp 45) 1, type := 0, pos := "hornbookref11.go:59", after := #[{ on := 16, ground := Go.Ground.data }, { on := 0, ground := Go.Ground.phase }, { on := 1, ground := Go.Ground.phase }, { on := 2, ground := Go.Ground.phase }, { on := 3, ground := Go.Ground.phase }, { on := 4, ground := Go.Ground.phase }, { on := 5, ground := Go.Ground.phase }, { on := 6, ground := Go.Ground.phase }, { on := 7, ground := Go.Ground.phase }, { on := 8, ground := Go.Ground.phase }, { on := 9, ground := Go.Ground.phase }, { on := 10, ground := Go.Ground.phase }, { on := 11, ground := Go.Ground.phase }, { on := 12, ground := Go.Ground.phase }, { on := 13, ground := Go.Ground.phase }, { on := 14, ground := Go.Ground.phase }, { on := 15, ground := Go.Ground.phase }], guard := none }, { dst := none, op := Go.Op.store 30 (Go.Operand.tmp 46) (Go.Operand.tmp 44), type := 0, pos := "hornbookref11.go:59", after := #[{ on := 17, ground := Go.Ground.data }, { on := 15, ground := Go.Ground.data }, { on := 15, ground := Go.Ground.chain }, { on := 0, ground := Go.Ground.phase }, { on := 1, ground := Go.Ground.phase }, { on := 2, ground := Go.Ground.phase }, { on := 3, ground := Go.Ground.phase }, { on := 4, ground := Go.Ground.phase }, { on := 5, ground := Go.Ground.phase }, { on := 6, ground := Go.Ground.phase }, { on := 7, ground := Go.Ground.phase }, { on := 8, ground := Go.Ground.phase }, { on := 9, ground := Go.Ground.phase }, { on := 10, ground := Go.Ground.phase }, { on := 11, ground := Go.Ground.phase }, { on := 12, ground := Go.Ground.phase }, { on := 13, ground := Go.Ground.phase }, { on := 14, ground := Go.Ground.phase }, { on := 15, ground := Go.Ground.phase }], guard := none }]
set_option maxRecDepth 100000 in
set_option maxHeartbeats 2000000 in
theorem drop5 {Q : Exit → Act → World → Prop} (a : Act) (W : World) {b n0 g n cap i : Nat} {u : Value} {A : List Tx} (hsz : a.tmps.size = 47) (h0 : a.tmps.getD 0 undef = .pointer (some ⟨b, 0, none⟩)) (h5 : a.tmps.getD 5 undef = .int .i64 (i : Int)) (hbox : W.heap[b]? = some (.cells #[u, (.slice (some ⟨g, 0, none⟩) n cap)] 40))
    (hO : OwnN W n0 (.slice (some ⟨g, 0, none⟩) n cap) A) (hi : i < A.length) (hl : A.length ≤ 1000) (hn0 : n0 ≤ W.heap.size) (hQ : ∀ c (a : Act) (d : Nat) v w, Q (.panic c) (a.put (some d) v) w → Q (.panic c) a w)
    (h : ∀ v1 v2 W', W'.heap[b]? = some (.cells #[u, v2] 40) → OwnN W' n0 v2 (A.take i ++ A.drop (i + 1)) → (∀ k, v2.ownBlock = some k → W.heap.size ≤ k) → Chg (fun k => k = b) W W' → Q .normal (Reg.ov a [(46, (.pointer (some ⟨b, 1, none⟩))), (45, (.pointer (some ⟨b, 0, none⟩))), (44, v2), (36, v1), (43, (.slice (cutP g cap (i + 1)) (n - (i + 1)) (cap - (i + 1)))), (42, (.int .i64 ((i + 1 : Nat) : Int))), (41, (.int .i64 (i : Int))), (40, (.slice (some ⟨g, 0, none⟩) n cap)), (39, (.pointer (some ⟨b, 1, none⟩))), (38, (.pointer (some ⟨b, 0, none⟩))), (37, (.pointer (some ⟨b, 0, none⟩))), (35, (.slice (some ⟨g, 0, none⟩) i cap)), (34, (.int .i64 (i : Int))), (33, (.slice (some ⟨g, 0, none⟩) n cap)), (32, (.pointer (some ⟨b, 1, none⟩))), (31, (.pointer (some ⟨b, 0, none⟩))), (30, (.pointer (some ⟨b, 0, none⟩))), (29, (.pointer (some ⟨b, 0, none⟩)))]) W') :
    (Code.region 5 opsD5 true).wp Tryz.prog Q a W := by
  have hii : IntKind.i64.wrap ((i : Int) + 1) = ((i + 1 : Nat) : Int) := by simp [IntKind.wrap, IntKind.bits, IntKind.signed]; omega
  obtain ⟨hnA, _, _, _, hle, _⟩ := own_parts hO
  obtain ⟨v1, W1, v2, W2, r1, r2, o2, hat, c1, c2⟩ := cutout 30 30 (W := W.drew) hO hn0 hi hl
  have hbt := (Array.getElem?_eq_some_iff.1 hbox).1
  have hbx1 : W1.heap[b]? = some (.cells #[u, (.slice (some ⟨g, 0, none⟩) n cap)] 40) := (c1.block b hbt id).trans hbox
  have hbx2 : W2.heap[b]? = some (.cells #[u, (.slice (some ⟨g, 0, none⟩) n cap)] 40) := (c2.block b hbt id).trans hbox
  have hT0 : (fun w : World => w.heap[b]? = some (.cells #[u, (.slice (some ⟨g, 0, none⟩) n cap)] 40)) W.drew := hbox
  refine Rst.start (s := 18) (T := fun w => w.heap[b]? = some (.cells #[u, (.slice (some ⟨g, 0, none⟩) n cap)] 40)) (by kernel_rfl) ?_
  refine Rst.takeP hQ 0 _ 29 (.pointer (some ⟨b, 0, none⟩)) rfl (by kernel_rfl) rfl rfl rfl (.inr hT0) (fun w' => Reg.mv rfl h0) ?_
  refine Rst.takeP hQ 1 _ 30 (.pointer (some ⟨b, 0, none⟩)) rfl (by kernel_rfl) rfl (by simp only [Reg.inB, hsz]; rfl) rfl (.inr hT0) (fun w' => Reg.mv rfl h0) ?_
  refine Rst.takeP hQ 2 _ 31 (.pointer (some ⟨b, 0, none⟩)) rfl (by kernel_rfl) rfl (by simp only [Reg.inB, hsz]; rfl) rfl (.inr hT0) (fun w' => Reg.nc rfl rfl) ?_
  refine Rst.takeP hQ 3 _ 32 (.pointer (some ⟨b, 1, none⟩)) rfl (by kernel_rfl) rfl (by simp only [Reg.inB, hsz]; rfl) rfl (.inr hT0) (fun w' => Reg.fa rfl rfl (.inr rfl)) ?_
  refine Rst.take hQ 4 _ 33 (.slice (some ⟨g, 0, none⟩) n cap) rfl (by kernel_rfl) rfl (by simp only [Reg.inB, hsz]; rfl) rfl hT0 (fun w' hw => Reg.ldS rfl rfl (box1 hw) (Tryz.isAgg30 _)) ?_
  refine Rst.takeP hQ 5 _ 34 (.int .i64 (i : Int)) rfl (by kernel_rfl) rfl (by simp only [Reg.inB, hsz]; rfl) rfl (.inr hT0) (fun w' => Reg.mv rfl h5) ?_
  refine Rst.takeP hQ 6 _ 35 (.slice (some ⟨g, 0, none⟩) i cap) rfl (by kernel_rfl) rfl (by simp only [Reg.inB, hsz]; rfl) rfl (.inr hT0) (fun w' => Reg.slTo rfl rfl rfl (cut_to g n cap i (by omega) w')) ?_
  refine Rst.takeP hQ 8 _ 37 (.pointer (some ⟨b, 0, none⟩)) rfl (by kernel_rfl) rfl (by simp only [Reg.inB, hsz]; rfl) rfl (.inr hT0) (fun w' => Reg.mv rfl h0) ?_
  refine Rst.takeP hQ 9 _ 38 (.pointer (some ⟨b, 0, none⟩)) rfl (by kernel_rfl) rfl (by simp only [Reg.inB, hsz]; rfl) rfl (.inr hT0) (fun w' => Reg.nc rfl rfl) ?_
  refine Rst.takeP hQ 10 _ 39 (.pointer (some ⟨b, 1, none⟩)) rfl (by kernel_rfl) rfl (by simp only [Reg.inB, hsz]; rfl) rfl (.inr hT0) (fun w' => Reg.fa rfl rfl (.inr rfl)) ?_
  refine Rst.take hQ 11 _ 40 (.slice (some ⟨g, 0, none⟩) n cap) rfl (by kernel_rfl) rfl (by simp only [Reg.inB, hsz]; rfl) rfl hT0 (fun w' hw => Reg.ldS rfl rfl (box1 hw) (Tryz.isAgg30 _)) ?_
  refine Rst.takeP hQ 12 _ 41 (.int .i64 (i : Int)) rfl (by kernel_rfl) rfl (by simp only [Reg.inB, hsz]; rfl) rfl (.inr hT0) (fun w' => Reg.mv rfl h5) ?_
  refine Rst.takeP hQ 13 _ 42 (.int .i64 ((i + 1 : Nat) : Int)) rfl (by kernel_rfl) rfl (by simp only [Reg.inB, hsz]; rfl) rfl (.inr hT0) (fun w' => Reg.adI rfl rfl rfl hii) ?_
  refine Rst.takeP hQ 14 _ 43 (.slice (cutP g cap (i + 1)) (n - (i + 1)) (cap - (i + 1))) rfl (by kernel_rfl) rfl (by simp only [Reg.inB, hsz]; rfl) rfl (.inr hT0) (fun w' => Reg.sl rfl rfl rfl (cut_from g n cap (i + 1) (by omega) w')) ?_
  refine Rst.one 7 (by simp only [Reg.inB, hsz]; rfl) (by kernel_rfl) ⟨_, rfl, rfl, .inl ⟨36, v1, W1, rfl, Reg.app rfl rfl rfl r1, .inr hbx1, ?_⟩⟩
  refine Rst.one 15 (by simp only [Reg.inB, hsz]; rfl) (by kernel_rfl) ⟨_, rfl, rfl, .inl ⟨44, v2, W2, rfl, Reg.app rfl rfl rfl r2, .inr hbx2, ?_⟩⟩
  refine Rst.one 16 (by simp only [Reg.inB, hsz]; rfl) (by kernel_rfl) ⟨_, rfl, rfl, .inl ⟨45, (.pointer (some ⟨b, 0, none⟩)), _, rfl, Reg.nc rfl rfl, .inr hbx2, ?_⟩⟩
  refine Rst.one 17 (by simp only [Reg.inB, hsz]; rfl) (by kernel_rfl) ⟨_, rfl, rfl, .inl ⟨46, (.pointer (some ⟨b, 1, none⟩)), _, rfl, Reg.fa rfl rfl (.inr rfl), .inr hbx2, ?_⟩⟩
  refine Rst.one 18 (by simp only [Reg.inB, hsz]; rfl) (by kernel_rfl) ⟨_, rfl, rfl, .inr ⟨_, rfl, Reg.st1 rfl rfl rfl (box1 hbx2) (frozen_at hbx2) (.inr (own_slice o2)) (Tryz.sizeOf30 _), .inl (by kernel_rfl), ?_⟩⟩
  refine Rst.done (by kernel_rfl) ?_
  have c3 := Chg.then (p := fun k => k = b) ⟨c2.os, c2.tape, c2.output, c2.size, fun k hk _ => c2.block k hk id⟩ (chg_set W2 b 1 v2) fun _ _ e => e
  exact h v1 v2 _ (set_at (j := 1) v2 hbx2) (own_set o2 hbx2) hat ⟨c3.os, c3.tape, c3.output, c3.size, c3.block⟩
theorem RO.cut {n0 : Nat} {w wr W4 W5 : World} {a i : Nat} {vT vN v1 v2 : Value} {L : Row} {x : Tx} (h : RO n0 wr a vT vN L) (hc3 : Chg (Tch a vT vN) w wr) (c4 : Chg (fun k => k = a) wr W4) (ot : OwnN W4 n0 v1 ((ks L).take i ++ (ks L).drop (i + 1)))
    (hb : W5.heap[a]? = some (.cells #[v1, v2] 40)) (on : OwnN W5 n0 v2 ((ps L).take i ++ (ps L).drop (i + 1))) (a2 : ∀ k, v2.ownBlock = some k → W4.heap.size ≤ k) (hb4 : W4.heap[a]? = some (.cells #[v1, vN] 40)) (c5 : Chg (fun k => k = a) W4 W5) (hi : i < L.length) (hx : L[i].1 = x) :
    RO n0 W5 a v1 v2 (del L x) ∧ Chg (Tch a vT vN) w W5 := by
  have e := del_at h.srt hi hx
  refine ⟨⟨hb, ?_, ?_, fun k h1 h2 => ?_, h.base, srt_del h.srt x, fun y hy => h.small y (mem_del.1 hy).1⟩, (hc3.then c4 fun _ _ e => .inl e).then c5 fun _ _ e => .inl e⟩
  · rw [e, ks_cut]
    exact own_keep ot fun q hq => c5.block q (own_ty ot hq).2.1 fun e2 => by
      obtain ⟨_, _, cur, hcur⟩ := own_ty ot hq
      rw [e2, hb4] at hcur; cases hcur
  · rw [e, ps_cut]; exact on
  · have := a2 k h2
    have := (own_ty ot h1).2.1
    omega
set_option maxRecDepth 100000 in
set_option maxHeartbeats 4000000 in
theorem refDrop_any {n0 : Nat} {w : World} {a : Nat} {vT vN : Value} {L : Row} (h : RO n0 w a vT vN L) (hn0 : n0 ≤ w.heap.size) (hl : L.length ≤ 1000) (x : Tx) :
    Calls Tryz.prog 18 #[.pointer (some ⟨a, 0, none⟩), tx x] w fun e W' => e = .returned (.bool (has L x)) ∧ (∃ vT' vN', RO n0 W' a vT' vN' (del L x)) ∧ Chg (Tch a vT vN) w W' := by
  have hpl := place_any h (by omega) x
  have HH := hide h
  have HC : Hid (∀ W, Below w.heap.size w W → Chg (Tch a vT vN) w W) := hide (fun W hW => Chg.of hW)
  clear h
  cases hh : has L x with
  | false =>
    rw [plI_lt hh] at hpl
    have HD := hide (del_self hh)
    unfold tx at *
    go_enter Tryz.func18, Tryz.ntmps18
    go_wp2_with fail
    refine hpl.mono ?_
    rintro e w1 ⟨rfl, b1⟩
    go_wp2
    go_ret
    exact ⟨rfl, ⟨_, _, by rw [HD.out]; exact HH.out.later b1⟩, HC.out _ b1⟩
  | true =>
    obtain ⟨i, hpi, hil, hik2⟩ := pl_key HH.out.srt hh
    rw [hpi] at hpl
    have hksl := ks_len L
    have hpsl := ps_len L
    obtain ⟨g, cap, hvt⟩ := own_pos HH.out.tags (by omega)
    obtain ⟨g2, cap2, hvn⟩ := own_pos HH.out.named (by omega)
    have HVT := hide hvt
    have HVN := hide hvn
    clear hvt hvn hpi hh
    unfold tx at *
    go_enter Tryz.func18, Tryz.ntmps18
    go_wp2_with fail
    refine hpl.mono ?_
    rintro e w1 ⟨rfl, b1⟩
    have HR := hide (HH.out.later b1)
    have HC1 := hide (HC.out _ b1)
    have hz1 := b1.size
    clear hpl b1
    go_wp2
    have hbx := HR.out.box
    have hot := HR.out.tags
    have hon := HR.out.named
    rw [HVT.out] at hbx hot
    refine drop4 _ _ rfl rfl rfl hbx hot (by omega) (by omega) (by omega) (fun _ _ _ _ _ h => h) ?_
    intro v1 v2 W4 hb4 ot4 at4 ch4
    have on4 : OwnN W4 n0 vN (ps L) := own_keep hon fun q hq => ch4.block q (own_ty hon hq).2.1 fun e2 => by
      obtain ⟨_, _, cur, hcur⟩ := own_ty hon hq
      rw [e2, hbx] at hcur; cases hcur
    have HB4 := hide hb4
    have H4 := hide (And.intro ot4 (And.intro at4 ch4))
    have HON4 := hide on4
    have hz4 := ch4.size
    clear hbx hot hon hb4 ot4 at4 ch4 on4
    simp only [Reg.ov, Act.put, List.setIfInBounds_toArray, List.set_cons_succ, List.set_cons_zero]
    go_wp2
    have hbx := HB4.out
    have hon := HON4.out
    rw [HVN.out] at hbx hon
    refine drop5 _ _ rfl rfl rfl hbx hon (by omega) (by omega) (by omega) (fun _ _ _ _ _ h => h) ?_
    intro v3 v4 W5 hb5 on5 at5 ch5
    have HF := hide (RO.cut HR.out HC1.out H4.out.2.2 H4.out.1 hb5 on5 at5 HB4.out ch5 hil hik2)
    clear hbx hon hb5 on5 at5 ch5
    simp only [Reg.ov, Act.put, List.setIfInBounds_toArray, List.set_cons_succ, List.set_cons_zero]
    go_wp2
    go_ret
    exact ⟨rfl, ⟨_, _, HF.out.1⟩, HF.out.2⟩
end C
end Go.Proofs.YtbeihgjonhgfmaaGreatDoor
