/- Regions that draw their order, while something holds throughout; the last regions of the reference's Set. -/
import Derived.Test.YtbeihgjonhgfmaaGreatDoorCrs
import Derived.Test.YtbeihgjonhgfmaaGreatDoorCho
namespace Go.Proofs.YtbeihgjonhgfmaaGreatDoor
open Go.RowKit Go.Shelf Go.Maps
namespace Rs
def G4 (ops : Array Oper) (Q : Exit → Act → World → Prop) (a : Act) (S : World → Prop) (fuel : Nat) (ks : List Nat) (l : List (Nat × Value)) (w : World) : Prop :=
  wpAnyH Tryz.prog .any ops Q S fuel (Reg.lst ops.size ks) (Reg.ov a l) w
section
variable {ops : Array Oper} {Q : Exit → Act → World → Prop} {a : Act} {S : World → Prop} {fuel : Nat} {ks : List Nat} {l : List (Nat × Value)} {w : World}
theorem start {id : Nat} (S : World → Prop) (hm : Tryz.prog.follows .mixedOrders = true) (h : G4 ops Q a S ops.size [] [] w.drew) : (Code.region id ops true).wp Tryz.prog Q a w := wp_region_held hm h
theorem take (hQ : ∀ c (a : Act) (d : Nat) v w, Q (.panic c) (a.put (some d) v) w → Q (.panic c) a w) (i : Nat) (o : Oper) (d : Nat) (v : Value) (hi : ops[i]? = some o)
    (hc : (Region.noSelect ops && (Region.free .any ops (Reg.lst ops.size ks) i && (Region.ready .any ops (Reg.lst ops.size ks)).contains i)) = true) (hd : o.dst = some d) (hb : Reg.inB a l = true) (hw : Reg.wantB ops a l o = true)
    (hS : S w) (hy : ∀ w', S w' → (execOp (Reg.ev a l) o).run Tryz.prog w' = .ok (.value v) w') (h : G4 ops Q a S fuel (i :: ks) ((d, v) :: l) w) : G4 ops Q a S (fuel + 1) ks l w := by
  simp only [Bool.and_eq_true] at hc
  obtain ⟨hs, hf, hr⟩ := hc
  refine wpAnyH_take (v := v) hi hs hf hr (fun c a' w' hh => hQ c a' d v w' (by rw [hd] at hh; exact hh)) (.inl ⟨Reg.wanted_of ops a l o hb hw, fun w' hw' => ?_⟩) hS ?_
  · rw [Reg.ov_eval a l hb]; exact hy w' hw'
  · rw [hd]; exact h
theorem one (i : Nat) (o : Oper) (d : Nat) (v : Value) (w' : World) (hi : ops[i]? = some o) (hr : Region.ready .any ops (Reg.lst ops.size ks) = [i]) (hd : o.dst = some d) (hb : Reg.inB a l = true) (hw : Reg.wantB ops a l o = true)
    (hrun : (execOp (Reg.ev a l) o).run Tryz.prog w = .ok (.value v) w') (hS : S w') (hg : G4 ops Q a S fuel (i :: ks) ((d, v) :: l) w') : G4 ops Q a S (fuel + 1) ks l w := by
  refine wpAnyH_all hr (by simp) fun j hj => ?_
  obtain rfl : j = i := by simpa using hj
  unfold wpOp
  simp only [hi]
  rw [if_pos (Reg.wanted_of ops a l o hb hw)]
  refine .inl ?_
  unfold Oper.wp
  rw [Reg.ov_eval a l hb, hrun]
  simp only [Oper.upon, hd]
  exact ⟨hS, hg⟩
theorem sto (i : Nat) (o : Oper) (w' : World) (hi : ops[i]? = some o) (hr : Region.ready .any ops (Reg.lst ops.size ks) = [i]) (hd : o.dst = none) (hb : Reg.inB a l = true) (hw : Reg.wantB ops a l o = true)
    (hrun : (execOp (Reg.ev a l) o).run Tryz.prog w = .ok .skip w') (hS : S w') (hg : G4 ops Q a S fuel (i :: ks) l w') : G4 ops Q a S (fuel + 1) ks l w := by
  refine wpAnyH_all hr (by simp) fun j hj => ?_
  obtain rfl : j = i := by simpa using hj
  unfold wpOp
  simp only [hi]
  rw [if_pos (Reg.wanted_of ops a l o hb hw)]
  refine .inl ?_
  unfold Oper.wp
  rw [Reg.ov_eval a l hb, hrun]
  simp only [Oper.upon, hd]
  exact ⟨hS, hg⟩
theorem call (i : Nat) (o : Oper) (d f : Nat) (xs : Array Operand) (ats : Array TypeId) (vs : Array Value) (hi : ops[i]? = some o) (hr : Region.ready .any ops (Reg.lst ops.size ks) = [i]) (hd : o.dst = some d) (hb : Reg.inB a l = true) (hw : Reg.wantB ops a l o = true)
    (hop : o.op = .call { callee := .value (.func f), args := xs, argTypes := ats }) (hvs : #[] ++ xs.map (Reg.ev a l) ++ #[] = vs) (hent : (callFunc f vs).run Tryz.prog w = .ok (.enter f vs) w)
    {R : Ending → World → Prop} (hc : Calls Tryz.prog f vs w R) (hR : ∀ e w', R e w' → ∃ v, e = .returned v ∧ S w' ∧ G4 ops Q a S fuel (i :: ks) ((d, v) :: l) w') : G4 ops Q a S (fuel + 1) ks l w := by
  refine wpAnyH_all hr (by simp) fun j hj => ?_
  obtain rfl : j = i := by simpa using hj
  unfold wpOp
  simp only [hi]
  rw [if_pos (Reg.wanted_of ops a l o hb hw)]
  refine .inl ?_
  unfold Oper.wp
  have he : (execOp (Reg.ev a l) o).run Tryz.prog w = .ok (.enter f vs) w := by
    obtain ⟨dst, op, type, pos, after, guard⟩ := o
    simp only at hop
    subst hop
    show (callFunc f (#[] ++ xs.map (Reg.ev a l) ++ #[])).run Tryz.prog w = _
    rw [hvs]
    exact hent
  rw [Reg.ov_eval a l hb, he]
  simp only [Oper.upon]
  refine hc.mono fun e w' hr' => ?_
  obtain ⟨v, rfl, hS, hg⟩ := hR e w' hr'
  simp only [hd]
  exact ⟨hS, hg⟩
theorem done (hr : Region.ready .any ops (Reg.lst ops.size ks) = []) (h : Q .normal (Reg.ov a l) w) : G4 ops Q a S fuel ks l w := wpAnyH_done hr h fuel
end
end Rs
namespace C
def ops11 : Array Oper := #[{ dst := some 70, op := Go.Op.move (Go.Operand.tmp 0), type := 38, pos := "hornbookref11.go:46", after := #[], guard := none }, { dst := some 71, op := Go.Op.nilCheck (Go.Operand.tmp 70), type := 0, pos := "hornbookref11.go:46", after := #[{ on := 0, ground := Go.Ground.data }], guard := none }, { dst := some 72, op := Go.Op.fieldAddr 40 (Go.Operand.tmp 71) 0, type := 0, pos := "hornbookref11.go:46", after := #[{ on := 1, ground := Go.Ground.data }], guard := none }, { dst := some 73, op := Go.Op.load 30 (Go.Operand.tmp 72), type := 30, pos := "hornbookref11.go:46", after := #[{ on := 2, ground := Go.Ground.data }], guard := none }, { dst := some 74, op := Go.Op.move (Go.Operand.tmp 7), type := 3, pos := "hornbookref11.go:46", after := #[], guard := none }, { dst := some 75, op := Go.Op.binOp Go.BinOp.add 3 (Go.Operand.tmp 74) (Go.Operand.const (Go.Value.int Go.IntKind.i64 1)) 3, type := 3, pos := "hornbookref11.go:46", after := #[{ on := 4, ground := Go.Ground.data }], guard := none }, { dst := some 76, op := Go.Op.slice 30 (Go.Operand.tmp 73) (some (Go.Operand.tmp 75)) none none, type := 30, pos := "hornbookref11.go:46", after := #[{ on := 3, ground := Go.Ground.data }, { on := 5, ground := Go.Ground.data }], guard := none }, { dst := some 77, op := Go.Op.move (Go.Operand.tmp 0), type := 38, pos := "hornbookref11.go:46", after := #[], guard := none }, { dst := some 78, op := Go.Op.nilCheck (Go.Operand.tmp 77), type := 0, pos := "hornbookref11.go:46", after := #[{ on := 7, ground := Go.Ground.data }], guard := none }, { dst := some 79, op := Go.Op.fieldAddr 40 (Go.Operand.tmp 78) 0, type := 0, pos := "hornbookref11.go:46", after := #[{ on := 8, ground := Go.Ground.data }], guard := none }, { dst := some 80, op := Go.Op.load 30 (Go.Operand.tmp 79), type := 30, pos := "hornbookref11.go:46", after := #[{ on := 9, ground := Go.Ground.data }], guard := none }, { dst := some 81, op := Go.Op.move (Go.Operand.tmp 7), type := 3, pos := "hornbookref11.go:46", after := #[], guard := none }, { dst := some 82, op := Go.Op.slice 30 (Go.Operand.tmp 80) (some (Go.Operand.tmp 81)) none none, type := 30, pos := "hornbookref11.go:46", after := #[{ on := 10, ground := Go.Ground.data }, { on := 11, ground := Go.Ground.data }], guard := none }, { dst := some 83, op := Go.Op.call { callee := Go.Callee.builtin Go.Builtin.copy, args := #[Go.Operand.tmp 76, Go.Operand.tmp 82], argTypes := #[30, 30] }, type := 3, pos := "hornbookref11.go:46", after := #[{ on := 6, ground := Go.Ground.data }, { on := 12, ground := Go.Ground.data }], guard := none }]
def ops12 : Array Oper := #[{ dst := some 84, op := Go.Op.move (Go.Operand.tmp 0), type := 38, pos := "hornbookref11.go:47", after := #[], guard := none }, { dst := some 85, op := Go.Op.nilCheck (Go.Operand.tmp 84), type := 0, pos := "hornbookref11.go:47", after := #[{ on := 0, ground := Go.Ground.data }], guard := none }, { dst := some 86, op := Go.Op.fieldAddr 40 (Go.Operand.tmp 85) 1, type := 0, pos := "hornbookref11.go:47", after := #[{ on := 1, ground := Go.Ground.data }], guard := none }, { dst := some 87, op := Go.Op.load 30 (Go.Operand.tmp 86), type := 30, pos := "hornbookref11.go:47", after := #[{ on := 2, ground := Go.Ground.data }], guard := none }, { dst := some 88, op := Go.Op.move (Go.Operand.tmp 7), type := 3, pos := "hornbookref11.go:47", after := #[], guard := none }, { dst := some 89, op := Go.Op.binOp Go.BinOp.add 3 (Go.Operand.tmp 88) (Go.Operand.const (Go.Value.int Go.IntKind.i64 1)) 3, type := 3, pos := "hornbookref11.go:47", after := #[{ on := 4, ground := Go.Ground.data }], guard := none }, { dst := some 90, op := Go.Op.slice 30 (Go.Operand.tmp 87) (some (Go.Operand.tmp 89)) none none, type := 30, pos := "hornbookref11.go:47", after := #[{ on := 3, ground := Go.Ground.data }, { on := 5, ground := Go.Ground.data }], guard := none }, { dst := some 91, op := Go.Op.move (Go.Operand.tmp 0), type := 38, pos := "hornbookref11.go:47", after := #[], guard := none }, { dst := some 92, op := Go.Op.nilCheck (Go.Operand.tmp 91), type := 0, pos := "hornbookref11.go:47", after := #[{ on := 7, ground := Go.Ground.data }], guard := none }, { dst := some 93, op := Go.Op.fieldAddr 40 (Go.Operand.tmp 92) 1, type := 0, pos := "hornbookref11.go:47", after := #[{ on := 8, ground := Go.Ground.data }], guard := none }, { dst := some 94, op := Go.Op.load 30 (Go.Operand.tmp 93), type := 30, pos := "hornbookref11.go:47", after := #[{ on := 9, ground := Go.Ground.data }], guard := none }, { dst := some 95, op := Go.Op.move (Go.Operand.tmp 7), type := 3, pos := "hornbookref11.go:47", after := #[], guard := none }, { dst := some 96, op := Go.Op.slice 30 (Go.Operand.tmp 94) (some (Go.Operand.tmp 95)) none none, type := 30, pos := "hornbookref11.go:47", after := #[{ on := 10, ground := Go.Ground.data }, { on := 11, ground := Go.Ground.data }], guard := none }, { dst := some 97, op := Go.Op.call { callee := Go.Callee.builtin Go.Builtin.copy, args := #[Go.Operand.tmp 90, Go.Operand.tmp 96], argTypes := #[30, 30] }, type := 3, pos := "hornbookref11.go:47", after := #[{ on := 6, ground := Go.Ground.data }, { on := 12, ground := Go.Ground.data }], guard := none }]
def ops13 : Array Oper := #[{ dst := some 98, op := Go.Op.move (Go.Operand.tmp 0), type := 38, pos := "hornbookref11.go:48", after := #[], guard := none }, { dst := some 99, op := Go.Op.nilCheck (Go.Operand.tmp 98), type := 0, pos := "hornbookref11.go:48", after := #[{ on := 0, ground := Go.Ground.data }], guard := none }, { dst := some 100, op := Go.Op.fieldAddr 40 (Go.Operand.tmp 99) 0, type := 0, pos := "hornbookref11.go:48", after := #[{ on := 1, ground := Go.Ground.data }], guard := none }, { dst := some 101, op := Go.Op.load 30 (Go.Operand.tmp 100), type := 30, pos := "hornbookref11.go:48", after := #[{ on := 2, ground := Go.Ground.data }], guard := none }, { dst := some 102, op := Go.Op.move (Go.Operand.tmp 7), type := 3, pos := "hornbookref11.go:48", after := #[], guard := none }, { dst := some 103, op := Go.Op.move (Go.Operand.tmp 0), type := 38, pos := "hornbookref11.go:48", after := #[], guard := none }, { dst := some 104, op := Go.Op.nilCheck (Go.Operand.tmp 103), type := 0, pos := "hornbookref11.go:48", after := #[{ on := 5, ground := Go.Ground.data }], guard := none }, { dst := some 105, op := Go.Op.fieldAddr 40 (Go.Operand.tmp 104) 1, type := 0, pos := "hornbookref11.go:48", after := #[{ on := 6, ground := Go.Ground.data }], guard := none }, { dst := some 106, op := Go.Op.load 30 (Go.Operand.tmp 105), type := 30, pos := "hornbookref11.go:48", after := #[{ on := 7, ground := Go.Ground.data }], guard := none }, { dst := some 107, op := Go.Op.move (Go.Operand.tmp 7), type := 3, pos := "hornbookref11.go:48", after := #[{ on := 13, ground := Go.Ground.gcOnly Go.Departure.lateStores }], guard := none }, { dst := some 108, op := Go.Op.move (Go.Operand.tmp 1), type := 9, pos := "hornbookref11.go:48", after := #[], guard := none }, { dst := some 109, op := Go.Op.move (Go.Operand.tmp 2), type := 9, pos := "hornbookref11.go:48", after := #[{ on := 13, ground := Go.Ground.gcOnly Go.Departure.lateStores }], guard := none }, { dst := some 110, op := Go.Op.indexAddr 30 (Go.Operand.tmp 101) (Go.Operand.tmp 102), type := 0, pos := "hornbookref11.go:48", after := #[{ on := 3, ground := Go.Ground.data }, { on := 4, ground := Go.Ground.data }, { on := 0, ground := Go.Ground.phase }, { on := 1, ground := Go.Ground.phase }, { on := 2, ground := Go.Ground.phase }, { on := 3, ground := Go.Ground.phase }, { on := 4, ground := Go.Ground.phase }, { on := 5, ground := Go.Ground.textOnly Go.Departure.lateStores }, { on := 6, ground := Go.Ground.textOnly Go.Departure.lateStoresUnsure }, { on := 7, ground := Go.Ground.textOnly Go.Departure.lateStoresUnsure }, { on := 8, ground := Go.Ground.phase }, { on := 9, ground := Go.Ground.textOnly Go.Departure.lateStores }, { on := 10, ground := Go.Ground.phase }, { on := 11, ground := Go.Ground.textOnly Go.Departure.lateStores }], guard := none }, { dst := none, op := Go.Op.store 9 (Go.Operand.tmp 110) (Go.Operand.tmp 108), type := 0, pos := "hornbookref11.go:48", after := #[{ on := 12, ground := Go.Ground.data }, { on := 10, ground := Go.Ground.data }, { on := 0, ground := Go.Ground.phase }, { on := 1, ground := Go.Ground.phase }, { on := 2, ground := Go.Ground.phase }, { on := 3, ground := Go.Ground.phase }, { on := 4, ground := Go.Ground.phase }, { on := 5, ground := Go.Ground.textOnly Go.Departure.lateStores }, { on := 6, ground := Go.Ground.textOnly Go.Departure.lateStoresUnsure }, { on := 7, ground := Go.Ground.textOnly Go.Departure.lateStoresUnsure }, { on := 8, ground := Go.Ground.phase }, { on := 9, ground := Go.Ground.textOnly Go.Departure.lateStores }, { on := 10, ground := Go.Ground.phase }, { on := 11, ground := Go.Ground.textOnly Go.Departure.lateStores }], guard := none }, { dst := some 111, op := Go.Op.indexAddr 30 (Go.Operand.tmp 106) (Go.Operand.tmp 107), type := 0, pos := "hornbookref11.go:48", after := #[{ on := 8, ground := Go.Ground.data }, { on := 9, ground := Go.Ground.data }, { on := 0, ground := Go.Ground.phase }, { on := 1, ground := Go.Ground.phase }, { on := 2, ground := Go.Ground.phase }, { on := 3, ground := Go.Ground.phase }, { on := 4, ground := Go.Ground.phase }, { on := 5, ground := Go.Ground.phase }, { on := 6, ground := Go.Ground.phase }, { on := 7, ground := Go.Ground.phase }, { on := 8, ground := Go.Ground.phase }, { on := 9, ground := Go.Ground.phase }, { on := 10, ground := Go.Ground.phase }, { on := 11, ground := Go.Ground.phase }, { on := 12, ground := Go.Ground.phase }, { on := 13, ground := Go.Ground.phase }], guard := none }, { dst := none, op := Go.Op.store 9 (Go.Operand.tmp 111) (Go.Operand.tmp 109), type := 0, pos := "hornbookref11.go:48", after := #[{ on := 14, ground := Go.Ground.data }, { on := 11, ground := Go.Ground.data }, { on := 13, ground := Go.Ground.chain }, { on := 0, ground := Go.Ground.phase }, { on := 1, ground := Go.Ground.phase }, { on := 2, ground := Go.Ground.phase }, { on := 3, ground := Go.Ground.phase }, { on := 4, ground := Go.Ground.phase }, { on := 5, ground := Go.Ground.phase }, { on := 6, ground := Go.Ground.phase }, { on := 7, ground := Go.Ground.phase }, { on := 8, ground := Go.Ground.phase }, { on := 9, ground := Go.Ground.phase }, { on := 10, ground := Go.Ground.phase }, { on := 11, ground := Go.Ground.phase }, { on := 12, ground := Go.Ground.phase }, { on := 13, ground := Go.Ground.phase }], guard := none }]
set_option maxRecDepth 100000 in
set_option maxHeartbeats 2000000 in
theorem set11 {Q : Exit → Act → World → Prop} (a : Act) (W : World) {b n0 g cap i : Nat} {u : Value} {A : List Tx} {z : Tx} (hsz : a.tmps.size = 112) (h0 : a.tmps.getD 0 undef = .pointer (some ⟨b, 0, none⟩)) (h7 : a.tmps.getD 7 undef = .int .i64 (i : Int)) (hbox : W.heap[b]? = some (.cells #[(.slice (some ⟨g, 0, none⟩) (A.length + 1) cap), u] 40))
    (hO : OwnN W n0 (.slice (some ⟨g, 0, none⟩) (A.length + 1) cap) (A ++ [z])) (hi : i ≤ A.length) (hl : A.length ≤ 1000) (hQ : ∀ c (a : Act) (d : Nat) v w, Q (.panic c) (a.put (some d) v) w → Q (.panic c) a w)
    (h : ∀ vc z' W', W'.heap[b]? = some (.cells #[(.slice (some ⟨g, 0, none⟩) (A.length + 1) cap), u] 40) → OwnN W' n0 (.slice (some ⟨g, 0, none⟩) (A.length + 1) cap) (A.take i ++ z' :: A.drop i) → Chg (fun k => k = g) W W' → Q .normal (Reg.ov a [(83, vc), (82, (.slice (cutP g cap i) (A.length + 1 - i) (cap - i))), (81, (.int .i64 (i : Int))), (80, (.slice (some ⟨g, 0, none⟩) (A.length + 1) cap)), (79, (.pointer (some ⟨b, 0, none⟩))), (78, (.pointer (some ⟨b, 0, none⟩))), (77, (.pointer (some ⟨b, 0, none⟩))), (76, (.slice (cutP g cap (i + 1)) (A.length + 1 - (i + 1)) (cap - (i + 1)))), (75, (.int .i64 ((i + 1 : Nat) : Int))), (74, (.int .i64 (i : Int))), (73, (.slice (some ⟨g, 0, none⟩) (A.length + 1) cap)), (72, (.pointer (some ⟨b, 0, none⟩))), (71, (.pointer (some ⟨b, 0, none⟩))), (70, (.pointer (some ⟨b, 0, none⟩)))]) W') :
    (Code.region 11 ops11 true).wp Tryz.prog Q a W := by
  have hii : IntKind.i64.wrap ((i : Int) + 1) = ((i + 1 : Nat) : Int) := by simp [IntKind.wrap, IntKind.bits, IntKind.signed]; omega
  obtain ⟨vc, W', z', hrun, hO', hch⟩ := shift 3 (W := W.drew) hO hi
  have hbx' : W'.heap[b]? = some (.cells #[(.slice (some ⟨g, 0, none⟩) (A.length + 1) cap), u] 40) := by
    refine (hch.block b (Array.getElem?_eq_some_iff.1 hbox).1 fun e => ?_).trans hbox
    obtain ⟨_, _, cur, hcur, _⟩ := own_parts hO
    rw [← e, hbox] at hcur
    cases hcur
  refine Rs.start (fun w => w.heap[b]? = some (.cells #[(.slice (some ⟨g, 0, none⟩) (A.length + 1) cap), u] 40)) (by kernel_rfl) ?_
  refine Rs.take hQ 0 _ 70 (.pointer (some ⟨b, 0, none⟩)) rfl (by kernel_rfl) rfl rfl rfl hbox (fun w' hw => Reg.mv rfl h0) ?_
  refine Rs.take hQ 1 _ 71 (.pointer (some ⟨b, 0, none⟩)) rfl (by kernel_rfl) rfl (by simp only [Reg.inB, hsz]; rfl) rfl hbox (fun w' hw => Reg.nc rfl rfl) ?_
  refine Rs.take hQ 2 _ 72 (.pointer (some ⟨b, 0, none⟩)) rfl (by kernel_rfl) rfl (by simp only [Reg.inB, hsz]; rfl) rfl hbox (fun w' hw => Reg.fa rfl rfl (.inl rfl)) ?_
  refine Rs.take hQ 3 _ 73 (.slice (some ⟨g, 0, none⟩) (A.length + 1) cap) rfl (by kernel_rfl) rfl (by simp only [Reg.inB, hsz]; rfl) rfl hbox (fun w' hw => Reg.ldS rfl rfl (box0 hw) (Tryz.isAgg30 _)) ?_
  refine Rs.take hQ 4 _ 74 (.int .i64 (i : Int)) rfl (by kernel_rfl) rfl (by simp only [Reg.inB, hsz]; rfl) rfl hbox (fun w' hw => Reg.mv rfl h7) ?_
  refine Rs.take hQ 5 _ 75 (.int .i64 ((i + 1 : Nat) : Int)) rfl (by kernel_rfl) rfl (by simp only [Reg.inB, hsz]; rfl) rfl hbox (fun w' hw => Reg.adI rfl rfl rfl hii) ?_
  refine Rs.take hQ 6 _ 76 (.slice (cutP g cap (i + 1)) (A.length + 1 - (i + 1)) (cap - (i + 1))) rfl (by kernel_rfl) rfl (by simp only [Reg.inB, hsz]; rfl) rfl hbox (fun w' hw => Reg.sl rfl rfl rfl (cut_from g (A.length + 1) cap (i + 1) (by omega) w')) ?_
  refine Rs.take hQ 7 _ 77 (.pointer (some ⟨b, 0, none⟩)) rfl (by kernel_rfl) rfl (by simp only [Reg.inB, hsz]; rfl) rfl hbox (fun w' hw => Reg.mv rfl h0) ?_
  refine Rs.take hQ 8 _ 78 (.pointer (some ⟨b, 0, none⟩)) rfl (by kernel_rfl) rfl (by simp only [Reg.inB, hsz]; rfl) rfl hbox (fun w' hw => Reg.nc rfl rfl) ?_
  refine Rs.take hQ 9 _ 79 (.pointer (some ⟨b, 0, none⟩)) rfl (by kernel_rfl) rfl (by simp only [Reg.inB, hsz]; rfl) rfl hbox (fun w' hw => Reg.fa rfl rfl (.inl rfl)) ?_
  refine Rs.take hQ 10 _ 80 (.slice (some ⟨g, 0, none⟩) (A.length + 1) cap) rfl (by kernel_rfl) rfl (by simp only [Reg.inB, hsz]; rfl) rfl hbox (fun w' hw => Reg.ldS rfl rfl (box0 hw) (Tryz.isAgg30 _)) ?_
  refine Rs.take hQ 11 _ 81 (.int .i64 (i : Int)) rfl (by kernel_rfl) rfl (by simp only [Reg.inB, hsz]; rfl) rfl hbox (fun w' hw => Reg.mv rfl h7) ?_
  refine Rs.take hQ 12 _ 82 (.slice (cutP g cap i) (A.length + 1 - i) (cap - i)) rfl (by kernel_rfl) rfl (by simp only [Reg.inB, hsz]; rfl) rfl hbox (fun w' hw => Reg.sl rfl rfl rfl (cut_from g (A.length + 1) cap i (by omega) w')) ?_
  refine Rs.one 13 _ 83 vc W' rfl (by kernel_rfl) rfl (by simp only [Reg.inB, hsz]; rfl) rfl (Reg.cpy rfl rfl rfl hrun) hbx' ?_
  refine Rs.done (by kernel_rfl) ?_
  exact h vc z' W' hbx' hO' ⟨hch.os, hch.tape, hch.output, hch.size, hch.block⟩
set_option maxRecDepth 100000 in
set_option maxHeartbeats 2000000 in
theorem set12 {Q : Exit → Act → World → Prop} (a : Act) (W : World) {b n0 g cap i : Nat} {u : Value} {A : List Tx} {z : Tx} (hsz : a.tmps.size = 112) (h0 : a.tmps.getD 0 undef = .pointer (some ⟨b, 0, none⟩)) (h7 : a.tmps.getD 7 undef = .int .i64 (i : Int)) (hbox : W.heap[b]? = some (.cells #[u, (.slice (some ⟨g, 0, none⟩) (A.length + 1) cap)] 40))
    (hO : OwnN W n0 (.slice (some ⟨g, 0, none⟩) (A.length + 1) cap) (A ++ [z])) (hi : i ≤ A.length) (hl : A.length ≤ 1000) (hQ : ∀ c (a : Act) (d : Nat) v w, Q (.panic c) (a.put (some d) v) w → Q (.panic c) a w)
    (h : ∀ vc z' W', W'.heap[b]? = some (.cells #[u, (.slice (some ⟨g, 0, none⟩) (A.length + 1) cap)] 40) → OwnN W' n0 (.slice (some ⟨g, 0, none⟩) (A.length + 1) cap) (A.take i ++ z' :: A.drop i) → Chg (fun k => k = g) W W' → Q .normal (Reg.ov a [(97, vc), (96, (.slice (cutP g cap i) (A.length + 1 - i) (cap - i))), (95, (.int .i64 (i : Int))), (94, (.slice (some ⟨g, 0, none⟩) (A.length + 1) cap)), (93, (.pointer (some ⟨b, 1, none⟩))), (92, (.pointer (some ⟨b, 0, none⟩))), (91, (.pointer (some ⟨b, 0, none⟩))), (90, (.slice (cutP g cap (i + 1)) (A.length + 1 - (i + 1)) (cap - (i + 1)))), (89, (.int .i64 ((i + 1 : Nat) : Int))), (88, (.int .i64 (i : Int))), (87, (.slice (some ⟨g, 0, none⟩) (A.length + 1) cap)), (86, (.pointer (some ⟨b, 1, none⟩))), (85, (.pointer (some ⟨b, 0, none⟩))), (84, (.pointer (some ⟨b, 0, none⟩)))]) W') :
    (Code.region 12 ops12 true).wp Tryz.prog Q a W := by
  have hii : IntKind.i64.wrap ((i : Int) + 1) = ((i + 1 : Nat) : Int) := by simp [IntKind.wrap, IntKind.bits, IntKind.signed]; omega
  obtain ⟨vc, W', z', hrun, hO', hch⟩ := shift 3 (W := W.drew) hO hi
  have hbx' : W'.heap[b]? = some (.cells #[u, (.slice (some ⟨g, 0, none⟩) (A.length + 1) cap)] 40) := by
    refine (hch.block b (Array.getElem?_eq_some_iff.1 hbox).1 fun e => ?_).trans hbox
    obtain ⟨_, _, cur, hcur, _⟩ := own_parts hO
    rw [← e, hbox] at hcur
    cases hcur
  refine Rs.start (fun w => w.heap[b]? = some (.cells #[u, (.slice (some ⟨g, 0, none⟩) (A.length + 1) cap)] 40)) (by kernel_rfl) ?_
  refine Rs.take hQ 0 _ 84 (.pointer (some ⟨b, 0, none⟩)) rfl (by kernel_rfl) rfl rfl rfl hbox (fun w' hw => Reg.mv rfl h0) ?_
  refine Rs.take hQ 1 _ 85 (.pointer (some ⟨b, 0, none⟩)) rfl (by kernel_rfl) rfl (by simp only [Reg.inB, hsz]; rfl) rfl hbox (fun w' hw => Reg.nc rfl rfl) ?_
  refine Rs.take hQ 2 _ 86 (.pointer (some ⟨b, 1, none⟩)) rfl (by kernel_rfl) rfl (by simp only [Reg.inB, hsz]; rfl) rfl hbox (fun w' hw => Reg.fa rfl rfl (.inr rfl)) ?_
  refine Rs.take hQ 3 _ 87 (.slice (some ⟨g, 0, none⟩) (A.length + 1) cap) rfl (by kernel_rfl) rfl (by simp only [Reg.inB, hsz]; rfl) rfl hbox (fun w' hw => Reg.ldS rfl rfl (box1 hw) (Tryz.isAgg30 _)) ?_
  refine Rs.take hQ 4 _ 88 (.int .i64 (i : Int)) rfl (by kernel_rfl) rfl (by simp only [Reg.inB, hsz]; rfl) rfl hbox (fun w' hw => Reg.mv rfl h7) ?_
  refine Rs.take hQ 5 _ 89 (.int .i64 ((i + 1 : Nat) : Int)) rfl (by kernel_rfl) rfl (by simp only [Reg.inB, hsz]; rfl) rfl hbox (fun w' hw => Reg.adI rfl rfl rfl hii) ?_
  refine Rs.take hQ 6 _ 90 (.slice (cutP g cap (i + 1)) (A.length + 1 - (i + 1)) (cap - (i + 1))) rfl (by kernel_rfl) rfl (by simp only [Reg.inB, hsz]; rfl) rfl hbox (fun w' hw => Reg.sl rfl rfl rfl (cut_from g (A.length + 1) cap (i + 1) (by omega) w')) ?_
  refine Rs.take hQ 7 _ 91 (.pointer (some ⟨b, 0, none⟩)) rfl (by kernel_rfl) rfl (by simp only [Reg.inB, hsz]; rfl) rfl hbox (fun w' hw => Reg.mv rfl h0) ?_
  refine Rs.take hQ 8 _ 92 (.pointer (some ⟨b, 0, none⟩)) rfl (by kernel_rfl) rfl (by simp only [Reg.inB, hsz]; rfl) rfl hbox (fun w' hw => Reg.nc rfl rfl) ?_
  refine Rs.take hQ 9 _ 93 (.pointer (some ⟨b, 1, none⟩)) rfl (by kernel_rfl) rfl (by simp only [Reg.inB, hsz]; rfl) rfl hbox (fun w' hw => Reg.fa rfl rfl (.inr rfl)) ?_
  refine Rs.take hQ 10 _ 94 (.slice (some ⟨g, 0, none⟩) (A.length + 1) cap) rfl (by kernel_rfl) rfl (by simp only [Reg.inB, hsz]; rfl) rfl hbox (fun w' hw => Reg.ldS rfl rfl (box1 hw) (Tryz.isAgg30 _)) ?_
  refine Rs.take hQ 11 _ 95 (.int .i64 (i : Int)) rfl (by kernel_rfl) rfl (by simp only [Reg.inB, hsz]; rfl) rfl hbox (fun w' hw => Reg.mv rfl h7) ?_
  refine Rs.take hQ 12 _ 96 (.slice (cutP g cap i) (A.length + 1 - i) (cap - i)) rfl (by kernel_rfl) rfl (by simp only [Reg.inB, hsz]; rfl) rfl hbox (fun w' hw => Reg.sl rfl rfl rfl (cut_from g (A.length + 1) cap i (by omega) w')) ?_
  refine Rs.one 13 _ 97 vc W' rfl (by kernel_rfl) rfl (by simp only [Reg.inB, hsz]; rfl) rfl (Reg.cpy rfl rfl rfl hrun) hbx' ?_
  refine Rs.done (by kernel_rfl) ?_
  exact h vc z' W' hbx' hO' ⟨hch.os, hch.tape, hch.output, hch.size, hch.block⟩
set_option maxRecDepth 100000 in
theorem ix0 {w : World} {ρ : Operand → Value} {o : Oper} {x y : Operand} {b len cap k : Nat} {q : IntKind} (hop : o.op = .indexAddr 30 x y) (hx : ρ x = .slice (some ⟨b, 0, none⟩) len cap) (hy : ρ y = .int q (k : Int)) (hk : k < len) : (execOp ρ o).run Tryz.prog w = .ok (.value (.pointer (some ⟨b, k, none⟩))) w := by
  have := ixR (w := w) hop hx hy hk Tryz.underlying30 (elemSize30 w)
  rw [Nat.mul_one, Nat.zero_add] at this
  exact this
set_option maxRecDepth 100000 in
set_option maxHeartbeats 2000000 in
theorem set13 {Q : Exit → Act → World → Prop} (a : Act) (W : World) {b n0 g n cap g2 n2 cap2 i : Nat} {A N : List Tx} {k p : Tx} (hsz : a.tmps.size = 112) (h0 : a.tmps.getD 0 undef = .pointer (some ⟨b, 0, none⟩)) (h1 : a.tmps.getD 1 undef = tx k) (h2 : a.tmps.getD 2 undef = tx p) (h7 : a.tmps.getD 7 undef = .int .i64 (i : Int)) (hbox : W.heap[b]? = some (.cells #[(.slice (some ⟨g, 0, none⟩) n cap), (.slice (some ⟨g2, 0, none⟩) n2 cap2)] 40))
    (hO : OwnN W n0 (.slice (some ⟨g, 0, none⟩) n cap) A) (hO2 : OwnN W n0 (.slice (some ⟨g2, 0, none⟩) n2 cap2) N) (hgg : g ≠ g2) (hi : i < A.length) (hi2 : i < N.length) (hQ : ∀ c (a : Act) (d : Nat) v w, Q (.panic c) (a.put (some d) v) w → Q (.panic c) a w)
    (h : ∀ W', W'.heap[b]? = some (.cells #[(.slice (some ⟨g, 0, none⟩) n cap), (.slice (some ⟨g2, 0, none⟩) n2 cap2)] 40) → OwnN W' n0 (.slice (some ⟨g, 0, none⟩) n cap) (A.set i k) → OwnN W' n0 (.slice (some ⟨g2, 0, none⟩) n2 cap2) (N.set i p) → Chg (fun k => k = g ∨ k = g2) W W' → Q .normal (Reg.ov a [(111, (.pointer (some ⟨g2, i, none⟩))), (110, (.pointer (some ⟨g, i, none⟩))), (109, (tx p)), (108, (tx k)), (107, (.int .i64 (i : Int))), (106, (.slice (some ⟨g2, 0, none⟩) n2 cap2)), (105, (.pointer (some ⟨b, 1, none⟩))), (104, (.pointer (some ⟨b, 0, none⟩))), (103, (.pointer (some ⟨b, 0, none⟩))), (102, (.int .i64 (i : Int))), (101, (.slice (some ⟨g, 0, none⟩) n cap)), (100, (.pointer (some ⟨b, 0, none⟩))), (99, (.pointer (some ⟨b, 0, none⟩))), (98, (.pointer (some ⟨b, 0, none⟩)))]) W') :
    (Code.region 13 ops13 true).wp Tryz.prog Q a W := by
  obtain ⟨hn, _, cur, hcur, _⟩ := own_parts hO
  obtain ⟨hn2, _, cur2, hcur2, _⟩ := own_parts hO2
  obtain ⟨c1, f1, o1, ch1⟩ := put1 (W := W.drew) hO hi k
  have o12 : OwnN (W.drew.setCell ⟨g, i, none⟩ (tx k)) n0 (.slice (some ⟨g2, 0, none⟩) n2 cap2) N := own_keep hO2 fun q hq => by
    have e : g2 = q := by simpa [Value.ownBlock] using hq
    subst e
    exact ch1.block g2 (Array.getElem?_eq_some_iff.1 hcur2).1 (fun e => hgg e.symm)
  obtain ⟨c2, f2, o2, ch2⟩ := put1 o12 hi2 p
  have o21 : OwnN ((W.drew.setCell ⟨g, i, none⟩ (tx k)).setCell ⟨g2, i, none⟩ (tx p)) n0 (.slice (some ⟨g, 0, none⟩) n cap) (A.set i k) := own_keep o1 fun q hq => by
    have e : g = q := by simpa [Value.ownBlock] using hq
    subst e
    exact ch2.block g (Nat.lt_of_lt_of_le (Array.getElem?_eq_some_iff.1 hcur).1 ch1.size) hgg
  have hbt := (Array.getElem?_eq_some_iff.1 hbox).1
  have hb1 : (W.drew.setCell ⟨g, i, none⟩ (tx k)).heap[b]? = some (.cells #[(.slice (some ⟨g, 0, none⟩) n cap), (.slice (some ⟨g2, 0, none⟩) n2 cap2)] 40) := (ch1.block b hbt fun e => by rw [← e, hbox] at hcur; cases hcur).trans hbox
  have hb2 : ((W.drew.setCell ⟨g, i, none⟩ (tx k)).setCell ⟨g2, i, none⟩ (tx p)).heap[b]? = some (.cells #[(.slice (some ⟨g, 0, none⟩) n cap), (.slice (some ⟨g2, 0, none⟩) n2 cap2)] 40) := (ch2.block b (Nat.lt_of_lt_of_le hbt ch1.size) fun e => by rw [← e, hbox] at hcur2; cases hcur2).trans hb1
  refine Rs.start (fun w => w.heap[b]? = some (.cells #[(.slice (some ⟨g, 0, none⟩) n cap), (.slice (some ⟨g2, 0, none⟩) n2 cap2)] 40)) (by kernel_rfl) ?_
  refine Rs.take hQ 0 _ 98 (.pointer (some ⟨b, 0, none⟩)) rfl (by kernel_rfl) rfl rfl rfl hbox (fun w' hw => Reg.mv rfl h0) ?_
  refine Rs.take hQ 1 _ 99 (.pointer (some ⟨b, 0, none⟩)) rfl (by kernel_rfl) rfl (by simp only [Reg.inB, hsz]; rfl) rfl hbox (fun w' hw => Reg.nc rfl rfl) ?_
  refine Rs.take hQ 2 _ 100 (.pointer (some ⟨b, 0, none⟩)) rfl (by kernel_rfl) rfl (by simp only [Reg.inB, hsz]; rfl) rfl hbox (fun w' hw => Reg.fa rfl rfl (.inl rfl)) ?_
  refine Rs.take hQ 3 _ 101 (.slice (some ⟨g, 0, none⟩) n cap) rfl (by kernel_rfl) rfl (by simp only [Reg.inB, hsz]; rfl) rfl hbox (fun w' hw => Reg.ldS rfl rfl (box0 hw) (Tryz.isAgg30 _)) ?_
  refine Rs.take hQ 4 _ 102 (.int .i64 (i : Int)) rfl (by kernel_rfl) rfl (by simp only [Reg.inB, hsz]; rfl) rfl hbox (fun w' hw => Reg.mv rfl h7) ?_
  refine Rs.take hQ 5 _ 103 (.pointer (some ⟨b, 0, none⟩)) rfl (by kernel_rfl) rfl (by simp only [Reg.inB, hsz]; rfl) rfl hbox (fun w' hw => Reg.mv rfl h0) ?_
  refine Rs.take hQ 6 _ 104 (.pointer (some ⟨b, 0, none⟩)) rfl (by kernel_rfl) rfl (by simp only [Reg.inB, hsz]; rfl) rfl hbox (fun w' hw => Reg.nc rfl rfl) ?_
  refine Rs.take hQ 7 _ 105 (.pointer (some ⟨b, 1, none⟩)) rfl (by kernel_rfl) rfl (by simp only [Reg.inB, hsz]; rfl) rfl hbox (fun w' hw => Reg.fa rfl rfl (.inr rfl)) ?_
  refine Rs.take hQ 8 _ 106 (.slice (some ⟨g2, 0, none⟩) n2 cap2) rfl (by kernel_rfl) rfl (by simp only [Reg.inB, hsz]; rfl) rfl hbox (fun w' hw => Reg.ldS rfl rfl (box1 hw) (Tryz.isAgg30 _)) ?_
  refine Rs.take hQ 9 _ 107 (.int .i64 (i : Int)) rfl (by kernel_rfl) rfl (by simp only [Reg.inB, hsz]; rfl) rfl hbox (fun w' hw => Reg.mv rfl h7) ?_
  refine Rs.take hQ 10 _ 108 (tx k) rfl (by kernel_rfl) rfl (by simp only [Reg.inB, hsz]; rfl) rfl hbox (fun w' hw => Reg.mv rfl h1) ?_
  refine Rs.take hQ 11 _ 109 (tx p) rfl (by kernel_rfl) rfl (by simp only [Reg.inB, hsz]; rfl) rfl hbox (fun w' hw => Reg.mv rfl h2) ?_
  refine Rs.take hQ 12 _ 110 (.pointer (some ⟨g, i, none⟩)) rfl (by kernel_rfl) rfl (by simp only [Reg.inB, hsz]; rfl) rfl hbox (fun w' hw => ix0 rfl rfl rfl (by omega)) ?_
  refine Rs.sto 13 _ _ rfl (by kernel_rfl) rfl (by simp only [Reg.inB, hsz]; rfl) rfl (Reg.stA rfl rfl rfl c1 f1 ⟨_, rfl⟩ (Tryz.sizeOf9 _)) hb1 ?_
  refine Rs.take hQ 14 _ 111 (.pointer (some ⟨g2, i, none⟩)) rfl (by kernel_rfl) rfl (by simp only [Reg.inB, hsz]; rfl) rfl hb1 (fun w' hw => ix0 rfl rfl rfl (by omega)) ?_
  refine Rs.sto 15 _ _ rfl (by kernel_rfl) rfl (by simp only [Reg.inB, hsz]; rfl) rfl (Reg.stA rfl rfl rfl c2 f2 ⟨_, rfl⟩ (Tryz.sizeOf9 _)) hb2 ?_
  refine Rs.done (by kernel_rfl) ?_
  have ch3 : Chg (fun k => k = g ∨ k = g2) W.drew _ := Chg.then (p := fun k => k = g ∨ k = g2) ⟨ch1.os, ch1.tape, ch1.output, ch1.size, fun q hq hp => ch1.block q hq (fun e => hp (.inl e))⟩ ch2 (fun _ _ e => .inr e)
  exact h _ hb2 o21 o2 ⟨ch3.os, ch3.tape, ch3.output, ch3.size, ch3.block⟩
end C
end Go.Proofs.YtbeihgjonhgfmaaGreatDoor
