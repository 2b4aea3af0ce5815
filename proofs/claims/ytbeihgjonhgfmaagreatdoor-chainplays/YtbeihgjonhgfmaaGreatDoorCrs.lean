/- The reference's Set: its regions that draw their order. -/
import Derived.Test.YtbeihgjonhgfmaaGreatDoorCrm
namespace Go.Proofs.YtbeihgjonhgfmaaGreatDoor
open Go.RowKit Go.Shelf Go.Maps
namespace C
def ops10 : Array Oper := #[{ dst := some 52, op := Go.Op.move (Go.Operand.tmp 0), type := 38, pos := "hornbookref11.go:45", after := #[], guard := none }, { dst := some 53, op := Go.Op.move (Go.Operand.tmp 0), type := 38, pos := "hornbookref11.go:45", after := #[{ on := 16, ground := Go.Ground.gcOnly Go.Departure.lateStores }], guard := none }, { dst := some 54, op := Go.Op.move (Go.Operand.tmp 0), type := 38, pos := "hornbookref11.go:45", after := #[], guard := none }, { dst := some 55, op := Go.Op.nilCheck (Go.Operand.tmp 54), type := 0, pos := "hornbookref11.go:45", after := #[{ on := 2, ground := Go.Ground.data }], guard := none }, { dst := some 56, op := Go.Op.fieldAddr 40 (Go.Operand.tmp 55) 0, type := 0, pos := "hornbookref11.go:45", after := #[{ on := 3, ground := Go.Ground.data }], guard := none }, { dst := some 57, op := Go.Op.load 30 (Go.Operand.tmp 56), type := 30, pos := "hornbookref11.go:45", after := #[{ on := 4, ground := Go.Ground.data }], guard := none }, { dst := some 58, op := Go.Op.buildSlice 30 1 #[(0, Go.Operand.const (Go.Value.string { data := #[] }))], type := 30, pos := "hornbookref11.go:45", after := #[], guard := none }, { dst := some 59, op := Go.Op.call { callee := Go.Callee.builtin Go.Builtin.append, args := #[Go.Operand.tmp 57, Go.Operand.tmp 58], argTypes := #[30, 30] }, type := 30, pos := "hornbookref11.go:45", after := #[{ on := 5, ground := Go.Ground.data }, { on := 6, ground := Go.Ground.data }], guard := none }, { dst := some 60, op := Go.Op.move (Go.Operand.tmp 0), type := 38, pos := "hornbookref11.go:45", after := #[], guard := none }, { dst := some 61, op := Go.Op.nilCheck (Go.Operand.tmp 60), type := 0, pos := "hornbookref11.go:45", after := #[{ on := 8, ground := Go.Ground.data }], guard := none }, { dst := some 62, op := Go.Op.fieldAddr 40 (Go.Operand.tmp 61) 1, type := 0, pos := "hornbookref11.go:45", after := #[{ on := 9, ground := Go.Ground.data }], guard := none }, { dst := some 63, op := Go.Op.load 30 (Go.Operand.tmp 62), type := 30, pos := "hornbookref11.go:45", after := #[{ on := 10, ground := Go.Ground.data }], guard := none }, { dst := some 64, op := Go.Op.buildSlice 30 1 #[(0, Go.Operand.const (Go.Value.string { data := #[] }))], type := 30, pos := "hornbookref11.go:45", after := #[], guard := none }, { dst := some 65, op := Go.Op.call { callee := Go.Callee.builtin Go.Builtin.append, args := #[Go.Operand.tmp 63, Go.Operand.tmp 64], argTypes := #[30, 30] }, type := 30, pos := "hornbookref11.go:45", after := #[{ on := 11, ground := Go.Ground.data }, { on := 12, ground := Go.Ground.data }, { on := 7, ground := Go.Ground.chain }], guard := none }, { dst := some 66, op := Go.Op.nilCheck (Go.Operand.tmp 52), type := 0, pos := "hornbookref11.go:45", after := #[{ on := 0, ground := Go.Ground.data }, { on := 0, ground := Go.Ground.phase }, { on := 1, ground := Go.Ground.textOnly Go.Departure.lateStores }, { on := 2, ground := Go.Ground.phase }, { on := 3, ground := Go.Ground.phase }, { on := 4, ground := Go.Ground.phase }, { on := 5, ground := Go.Ground.phase }, { on := 6, ground := Go.Ground.phase }, { on := 7, ground := Go.Ground.phase }, { on := 8, ground := Go.Ground.textOnly Go.Departure.lateStores }, { on := 9, ground := Go.Ground.textOnly Go.Departure.lateStoresUnsure }, { on := 10, ground := Go.Ground.textOnly Go.Departure.lateStoresUnsure }, { on := 11, ground := Go.Ground.phase }, { on := 12, ground := Go.Ground.textOnly Go.Departure.lateStoresUnsure }, { on := 13, ground := Go.Ground.phase }], guard := none }, { dst := some 67, op := Go.Op.fieldAddr 40 (Go.Operand.tmp 66) 0, type := 0, pos := "hornbookref11.go:45", after := #[{ on := 14, ground := Go.Ground.data }, { on := 0, ground := Go.Ground.phase }, { on := 1, ground := Go.Ground.textOnly Go.Departure.lateStores }, { on := 2, ground := Go.Ground.phase }, { on := 3, ground := Go.Ground.phase }, { on := 4, ground := Go.Ground.phase }, { on := 5, ground := Go.Ground.phase }, { on := 6, ground := Go.Ground.phase }, { on := 7, ground := Go.Ground.phase }, { on := 8, ground := Go.Ground.textOnly Go.Departure.lateStores }, { on := 9, ground := Go.Ground.textOnly Go.Departure.lateStoresUnsure }, { on := 10, ground := Go.Ground.textOnly Go.Departure.lateStoresUnsure }, { on := 11, ground := Go.Ground.phase }, { on := 12, ground := Go.Ground.textOnly Go.Departure.lateStoresUnsure }, { on := 13, ground := Go.Ground.phase }], guard := none }, { dst := none, op := Go.Op.store 30 (Go.Operand.tmp 67) (Go.Operand.tmp 59), type := 0, pos := "hornbookref11.go:45", after := #[{ on := 15, ground := Go.Ground.data }, { on := 7, ground := Go.Ground.data }, { on := 13, ground := Go.Ground.chain }, { on := 0, ground := Go.Ground.phase }, { on := 1, ground := Go.Ground.textOnly Go.Departure.lateStores }, { on := 2, ground := Go.Ground.phase }, { on := 3, ground := Go.Ground.phase }, { on := 4, ground := Go.Ground.phase }, { on := 5, ground := Go.Ground.phase }, { on := 6, ground := Go.Ground.phase }, { on := 7, ground := Go.Ground.phase }, { on := 8, ground := Go.Ground.textOnly Go.Departure.lateStores }, { on := 9, ground := Go.Ground.textOnly Go.Departure.lateStoresUnsure }, { on := 10, ground := Go.Ground.textOnly Go.Departure.lateStoresUnsure }, { on := 11, ground := Go.Ground.phase }, { on := 12, ground := Go.Ground.textOnly Go.Departure.lateStoresUnsure }, { on := 13, ground := Go.Ground.phase }], guard := none }, { dst := some 68, op := Go.Op.nilCheck (Go.Operand.tmp 53), type := 0, pos := "hornbookref11.go:45", after := #[{ on := 1, ground := Go.Ground.data }, { on := 0, ground := Go.Ground.phase }, { on := 1, ground := Go.Ground.phase }, { on := 2, ground := Go.Ground.phase }, { on := 3, ground := Go.Ground.phase }, { on := 4, ground := Go.Ground.phase }, { on := 5, ground := Go.Ground.phase }, { on := 6, ground := Go.Ground.phase }, { on := 7, ground := Go.Ground.phase }, { on := 8, ground := Go.Ground.phase }, { on := 9, ground := Go.Ground.phase }, { on := 10, ground := Go.Ground.phase }, { on := 11, ground := Go.Ground.phase }, { on := 12, ground := Go.Ground.phase }, { on := 13, ground := Go.Ground.phase }, { on := 14, ground := Go.Ground.phase }, { on := 15, ground := Go.Ground.phase }, { on := 16, ground := Go.Ground.phase }], guard := none }, { dst := some 69, op := Go.Op.fieldAddr 40 (Go.Operand.tmp 68) 1, type := 0, pos := "hornbookref11.go:45", after := #[{ on := 17, ground := Go.Ground.data }, { on := 0, ground := Go.Ground.phase }, { on := 1, ground := Go.Ground.phase }, { on := 2, ground := Go.Ground.phase }, { on := 3, ground := Go.Ground.phase }, { on := 4, ground := Go.Ground.phase }, { on := 5, ground := Go.Ground.phase }, { on := 6, ground := Go.Ground.phase }, { on := 7, ground := Go.Ground.phase }, { on := 8, ground := Go.Ground.phase }, { on := 9, ground := Go.Ground.phase }, { on := 10, ground := Go.Ground.phase }, { on := 11, ground := Go.Ground.phase }, { on := 12, ground := Go.Ground.phase }, { on := 13, ground := Go.Ground.phase }, { on := 14, ground := Go.Ground.phase }, { on := 15, ground := Go.Ground.phase }, { on := 16, ground := Go.Ground.phase }], guard := none }, { dst := none, op := Go.Op.store 30 (Go.Operand.tmp 69) (Go.Operand.tmp 65), type := 0, pos := "hornbookref11.go:45", after := #[{ on := 18, ground := Go.Ground.data }, { on := 13, ground := Go.Ground.data }, { on := 16, ground := Go.Ground.chain }, { on := 0, ground := Go.Ground.phase }, { on := 1, ground := Go.Ground.phase }, { on := 2, ground := Go.Ground.phase }, { on := 3, ground := Go.Ground.phase }, { on := 4, ground := Go.Ground.phase }, { on := 5, ground := Go.Ground.phase }, { on := 6, ground := Go.Ground.phase }, { on := 7, ground := Go.Ground.phase }, { on := 8, ground := Go.Ground.phase }, { on := 9, ground := Go.Ground.phase }, { on := 10, ground := Go.Ground.phase }, { on := 11, ground := Go.Ground.phase }, { on := 12, ground := Go.Ground.phase }, { on := 13, ground := Go.Ground.phase }, { on := 14, ground := Go.Ground.phase }, { on := 15, ground := Go.Ground.phase }, { on := 16, ground := Go.Ground.phase }], guard := none }]
theorem ov_swap (a : Act) {p q : Nat × Value} (l : List (Nat × Value)) (h : p.1 ≠ q.1) : Reg.ov a (p :: q :: l) = Reg.ov a (q :: p :: l) := by
  simp only [Reg.ov, Act.put]
  rw [Array.setIfInBounds_comm _ _ h.symm]
theorem ov_cong (a : Act) {p : Nat × Value} {l l' : List (Nat × Value)} (h : Reg.ov a l = Reg.ov a l') : Reg.ov a (p :: l) = Reg.ov a (p :: l') := by simp only [Reg.ov, h]
theorem box0 {W : World} {b : Nat} {u v : Value} (h : W.heap[b]? = some (.cells #[u, v] 40)) : W.cell? ⟨b, 0, none⟩ = some u := by simp [World.cell?, h]
theorem box1 {W : World} {b : Nat} {u v : Value} (h : W.heap[b]? = some (.cells #[u, v] 40)) : W.cell? ⟨b, 1, none⟩ = some v := by simp [World.cell?, h]
theorem own_slice {W : World} {B : Nat} {v : Value} {ss : List Tx} (h : OwnN W B v ss) : ∃ ao n c, v = .slice ao n c := by
  obtain ⟨ao, cap, e, _⟩ := h.rd
  exact ⟨ao, _, cap, e⟩
theorem box_keep {W W' : World} {B b : Nat} {v u1 u2 : Value} {ss : List Tx} (h : W.heap[b]? = some (.cells #[u1, u2] 40)) (hO : OwnN W B v ss) (hc : Chg (fun k => v.ownBlock = some k) W W') : W'.heap[b]? = some (.cells #[u1, u2] 40) := by
  refine (hc.block b (Array.getElem?_eq_some_iff.1 h).1 fun e => ?_).trans h
  obtain ⟨_, _, cur, hcur⟩ := own_ty hO e
  rw [h] at hcur
  cases hcur
theorem Mid.set {W0 W : World} {n0 b j : Nat} {vT0 vN0 vT vN u : Value} {A N : List Tx} {cs : Array Value} (h : Mid W0 W n0 vT0 vN0 vT vN A N) (hb : W.heap[b]? = some (.cells cs 40)) : OwnN (W.setCell ⟨b, j, none⟩ u) n0 vT A ∧ OwnN (W.setCell ⟨b, j, none⟩ u) n0 vN N := by
  have hne : ∀ {v : Value} {ss : List Tx}, OwnN W n0 v ss → ∀ k, v.ownBlock = some k → (W.setCell ⟨b, j, none⟩ u).heap[k]? = W.heap[k]? := fun hO k hk => by
    obtain ⟨_, hlt, cur, hcur⟩ := own_ty hO hk
    refine (chg_set W b j u).block k hlt fun e => ?_
    rw [e, hb] at hcur
    cases hcur
  exact ⟨own_keep h.t (hne h.t), own_keep h.n (hne h.n)⟩
theorem own_set {W : World} {n0 b j : Nat} {v u : Value} {ss : List Tx} {cs : Array Value} (hO : OwnN W n0 v ss) (hb : W.heap[b]? = some (.cells cs 40)) : OwnN (W.setCell ⟨b, j, none⟩ u) n0 v ss :=
  own_keep hO fun k hk => by
    obtain ⟨_, hlt, cur, hcur⟩ := own_ty hO hk
    refine (chg_set W b j u).block k hlt fun e => ?_
    rw [e, hb] at hcur
    cases hcur
set_option maxRecDepth 100000 in
set_option maxHeartbeats 2000000 in
theorem set10 {Q : Exit → Act → World → Prop} (a : Act) (W : World) {b n0 : Nat} {vT vN : Value} {A N : List Tx} (hsz : a.tmps.size = 112) (h0 : a.tmps.getD 0 undef = .pointer (some ⟨b, 0, none⟩)) (hbox : W.heap[b]? = some (.cells #[vT, vN] 40))
    (hT : OwnN W n0 vT A) (hN : OwnN W n0 vN N) (hap : ∀ k, vT.ownBlock = some k → vN.ownBlock ≠ some k) (hn0 : n0 ≤ W.heap.size) (hl : A.length ≤ 1000) (hl2 : N.length ≤ 1000) (hQ : ∀ c (a : Act) (d : Nat) v w, Q (.panic c) (a.put (some d) v) w → Q (.panic c) a w)
    (h : ∀ s58 vT' s64 vN' W', W'.heap[b]? = some (.cells #[vT', vN'] 40) → OwnN W' n0 vT' (A ++ [[]]) → OwnN W' n0 vN' (N ++ [[]]) → (∀ k, vT'.ownBlock = some k → vN'.ownBlock ≠ some k) → Chg (fun k => k = b ∨ vT.ownBlock = some k ∨ vN.ownBlock = some k) W W' → (∀ k, k < W.heap.size → vT'.ownBlock = some k → vT.ownBlock = some k) → (∀ k, k < W.heap.size → vN'.ownBlock = some k → vN.ownBlock = some k) → Q .normal (Reg.ov a [(69, .pointer (some ⟨b, 1, none⟩)), (68, .pointer (some ⟨b, 0, none⟩)), (67, .pointer (some ⟨b, 0, none⟩)), (66, .pointer (some ⟨b, 0, none⟩)), (65, vN'), (64, s64), (59, vT'), (58, s58), (63, vN), (57, vT), (62, .pointer (some ⟨b, 1, none⟩)), (61, .pointer (some ⟨b, 0, none⟩)), (60, .pointer (some ⟨b, 0, none⟩)), (56, .pointer (some ⟨b, 0, none⟩)), (55, .pointer (some ⟨b, 0, none⟩)), (54, .pointer (some ⟨b, 0, none⟩)), (53, .pointer (some ⟨b, 0, none⟩)), (52, .pointer (some ⟨b, 0, none⟩))]) W') :
    (Code.region 10 ops10 true).wp Tryz.prog Q a W := by
  obtain ⟨i0, hi0, hz0, hz1, hz2⟩ := info_parts9 info9N
  have hmid : Mid W.drew W.drew n0 vT vN vT vN A N := ⟨hT, hN, hap, Chg.refl _ _, fun _ _ e => e, fun _ _ e => e⟩
  have hbt := (Array.getElem?_eq_some_iff.1 hbox).1
  -- the end, whatever came ahead
  have key : ∀ s58 vT' s64 vN' W', Mid W.drew W' n0 vT vN vT' vN' (A ++ [[]]) (N ++ [[]]) → W'.heap[b]? = some (.cells #[vT, vN] 40) → Q .normal (Reg.ov a [(69, .pointer (some ⟨b, 1, none⟩)), (68, .pointer (some ⟨b, 0, none⟩)), (67, .pointer (some ⟨b, 0, none⟩)), (66, .pointer (some ⟨b, 0, none⟩)), (65, vN'), (64, s64), (59, vT'), (58, s58), (63, vN), (57, vT), (62, .pointer (some ⟨b, 1, none⟩)), (61, .pointer (some ⟨b, 0, none⟩)), (60, .pointer (some ⟨b, 0, none⟩)), (56, .pointer (some ⟨b, 0, none⟩)), (55, .pointer (some ⟨b, 0, none⟩)), (54, .pointer (some ⟨b, 0, none⟩)), (53, .pointer (some ⟨b, 0, none⟩)), (52, .pointer (some ⟨b, 0, none⟩))]) ((W'.setCell ⟨b, 0, none⟩ vT').setCell ⟨b, 1, none⟩ vN') := fun s58 vT' s64 vN' W' hm hb => by
    have hb1 := set_at (j := 0) vT' hb
    have hb2 := set_at (j := 1) vN' hb1
    refine h s58 vT' s64 vN' _ hb2 (own_set (own_set hm.t hb) hb1) (own_set (own_set hm.n hb) hb1) hm.apart ?_ hm.oldT hm.oldN
    have c1 : Chg (fun k => k = b ∨ vT.ownBlock = some k ∨ vN.ownBlock = some k) W.drew W' := ⟨hm.chg.os, hm.chg.tape, hm.chg.output, hm.chg.size, fun k hk hp => hm.chg.block k hk (fun x => hp (.inr x))⟩
    have c2 := (c1.then (chg_set W' b 0 vT') fun k _ e => .inl e).then (chg_set _ b 1 vN') fun k _ e => .inl e
    exact ⟨c2.os, c2.tape, c2.output, c2.size, c2.block⟩
  have hT0 : (fun w : World => w.heap[b]? = some (.cells #[vT, vN] 40)) W.drew := hbox
  refine Rst.start (s := 7) (T := fun w => w.heap[b]? = some (.cells #[vT, vN] 40)) (by kernel_rfl) ?_
  refine Rst.takeP hQ 0 _ 52 (.pointer (some ⟨b, 0, none⟩)) rfl (by kernel_rfl) rfl rfl rfl (.inr hT0) (fun w' => Reg.mv rfl h0) ?_
  refine Rst.takeP hQ 1 _ 53 (.pointer (some ⟨b, 0, none⟩)) rfl (by kernel_rfl) rfl (by simp only [Reg.inB, hsz]; rfl) rfl (.inr hT0) (fun w' => Reg.mv rfl h0) ?_
  refine Rst.takeP hQ 2 _ 54 (.pointer (some ⟨b, 0, none⟩)) rfl (by kernel_rfl) rfl (by simp only [Reg.inB, hsz]; rfl) rfl (.inr hT0) (fun w' => Reg.mv rfl h0) ?_
  refine Rst.takeP hQ 3 _ 55 (.pointer (some ⟨b, 0, none⟩)) rfl (by kernel_rfl) rfl (by simp only [Reg.inB, hsz]; rfl) rfl (.inr hT0) (fun w' => Reg.nc rfl rfl) ?_
  refine Rst.takeP hQ 4 _ 56 (.pointer (some ⟨b, 0, none⟩)) rfl (by kernel_rfl) rfl (by simp only [Reg.inB, hsz]; rfl) rfl (.inr hT0) (fun w' => Reg.fa rfl rfl (.inl rfl)) ?_
  refine Rst.takeP hQ 8 _ 60 (.pointer (some ⟨b, 0, none⟩)) rfl (by kernel_rfl) rfl (by simp only [Reg.inB, hsz]; rfl) rfl (.inr hT0) (fun w' => Reg.mv rfl h0) ?_
  refine Rst.takeP hQ 9 _ 61 (.pointer (some ⟨b, 0, none⟩)) rfl (by kernel_rfl) rfl (by simp only [Reg.inB, hsz]; rfl) rfl (.inr hT0) (fun w' => Reg.nc rfl rfl) ?_
  refine Rst.takeP hQ 10 _ 62 (.pointer (some ⟨b, 1, none⟩)) rfl (by kernel_rfl) rfl (by simp only [Reg.inB, hsz]; rfl) rfl (.inr hT0) (fun w' => Reg.fa rfl rfl (.inr rfl)) ?_
  refine Rst.take hQ 5 _ 57 vT rfl (by kernel_rfl) rfl (by simp only [Reg.inB, hsz]; rfl) rfl hT0 (fun w' hw => Reg.ldS rfl rfl (box0 hw) (Tryz.isAgg30 _)) ?_
  refine Rst.weak 13 (by kernel_rfl) ?_
  refine Rst.take hQ 11 _ 63 vN rfl (by kernel_rfl) rfl (by simp only [Reg.inB, hsz]; rfl) rfl hT0 (fun w' hw => Reg.ldS rfl rfl (box1 hw) (Tryz.isAgg30 _)) ?_
  have ha1 : Below W.heap.size W.drew (W.drew.alloc (.cells #[tx []] 9)) := al1 W.drew _
  have hm1 := hmid.later ha1
  have hbx1 : (W.drew.alloc (.cells #[tx []] 9)).heap[b]? = some (.cells #[vT, vN] 40) := (ha1.block b hbt).trans hbox
  have hz1' : (W.drew.alloc (.cells #[tx []] 9)).heap.size = W.heap.size + 1 := by simp
  have hc1 : (W.drew.alloc (.cells #[tx []] 9)).cell? ⟨W.drew.heap.size, 0, none⟩ = some (tx []) := (Boxed.new W.drew 9 (tx [])).cell
  refine Rst.two 6 12 (by simp only [Reg.inB, hsz]; rfl) (by kernel_rfl) ⟨_, rfl, rfl, .inl ⟨58, .slice (some ⟨W.drew.heap.size, 0, none⟩) 1 1, W.drew.alloc (.cells #[tx []] 9), rfl, Reg.bs (vs := #[(0, tx [])]) (cs := #[tx []]) i0 (.string ByteArray.empty) rfl (by kernel_rfl) Tryz.underlying30 hi0 hz0 (by rw [hz1]; decide) (by rw [hz1]; decide) (by rw [hz1]; kernel_rfl), .inr hbx1, ?_⟩⟩ ?_
  · refine Rst.two 7 12 (by simp only [Reg.inB, hsz]; rfl) (by kernel_rfl) ?_ ?_
    · obtain ⟨vT', W2, hrun, hm2, hch2⟩ := hm1.appT 30 (by rw [hz1']; omega) hc1 hl
      have hbx2 := box_keep hbx1 hm1.t hch2
      refine ⟨_, rfl, rfl, .inl ⟨59, vT', W2, rfl, Reg.app rfl rfl rfl hrun, (.inr hbx2), ?_⟩⟩
      have ha3 := al1 W2 (.cells #[tx []] 9)
      have hm3 := hm2.later ha3
      have hbx3 := (ha3.block b (Array.getElem?_eq_some_iff.1 hbx2).1).trans hbx2
      have hc3 : (W2.alloc (.cells #[tx []] 9)).cell? ⟨W2.heap.size, 0, none⟩ = some (tx []) := (Boxed.new W2 9 (tx [])).cell
      refine Rst.one 12 (by simp only [Reg.inB, hsz]; rfl) (by kernel_rfl) ⟨_, rfl, rfl, .inl ⟨64, .slice (some ⟨W2.heap.size, 0, none⟩) 1 1, W2.alloc (.cells #[tx []] 9), rfl, Reg.bs (vs := #[(0, tx [])]) (cs := #[tx []]) i0 (.string ByteArray.empty) rfl (by kernel_rfl) Tryz.underlying30 hi0 hz0 (by rw [hz1]; decide) (by rw [hz1]; decide) (by rw [hz1]; kernel_rfl), .inr hbx3, ?_⟩⟩
      obtain ⟨vN', W4, hrun4, hm4', hch4⟩ := hm3.symm.appT 30 (by have := hm3.chg.size; have e : W.drew.heap.size = W.heap.size := rfl; omega) hc3 hl2
      have hm4 := hm4'.symm
      have hb4 := box_keep hbx3 hm3.n hch4
      refine Rst.one 13 (by simp only [Reg.inB, hsz]; rfl) (by kernel_rfl) ⟨_, rfl, rfl, .inl ⟨65, vN', W4, rfl, Reg.app rfl rfl rfl hrun4, (.inr hb4), ?_⟩⟩
      refine Rst.one 14 (by simp only [Reg.inB, hsz]; rfl) (by kernel_rfl) ⟨_, rfl, rfl, .inl ⟨66, (.pointer (some ⟨b, 0, none⟩)), _, rfl, Reg.nc rfl rfl, (.inl (by kernel_rfl)), ?_⟩⟩
      refine Rst.one 15 (by simp only [Reg.inB, hsz]; rfl) (by kernel_rfl) ⟨_, rfl, rfl, .inl ⟨67, (.pointer (some ⟨b, 0, none⟩)), _, rfl, Reg.fa rfl rfl (.inl rfl), (.inl (by kernel_rfl)), ?_⟩⟩
      refine Rst.one 16 (by simp only [Reg.inB, hsz]; rfl) (by kernel_rfl) ⟨_, rfl, rfl, .inr ⟨_, rfl, Reg.st1 rfl rfl rfl (box0 hb4) (frozen_at hb4) (.inr (own_slice hm4.t)) (Tryz.sizeOf30 _), (.inl (by kernel_rfl)), ?_⟩⟩
      refine Rst.one 17 (by simp only [Reg.inB, hsz]; rfl) (by kernel_rfl) ⟨_, rfl, rfl, .inl ⟨68, (.pointer (some ⟨b, 0, none⟩)), _, rfl, Reg.nc rfl rfl, (.inl (by kernel_rfl)), ?_⟩⟩
      refine Rst.one 18 (by simp only [Reg.inB, hsz]; rfl) (by kernel_rfl) ⟨_, rfl, rfl, .inl ⟨69, (.pointer (some ⟨b, 1, none⟩)), _, rfl, Reg.fa rfl rfl (.inr rfl), (.inl (by kernel_rfl)), ?_⟩⟩
      refine Rst.one 19 (by simp only [Reg.inB, hsz]; rfl) (by kernel_rfl) ⟨_, rfl, rfl, .inr ⟨_, rfl, Reg.st1 rfl rfl rfl (box1 (set_at _ hb4)) (frozen_at (set_at _ hb4)) (.inr (own_slice hm4.n)) (Tryz.sizeOf30 _), (.inl (by kernel_rfl)), ?_⟩⟩
      refine Rst.done (by kernel_rfl) ?_
      exact key _ _ _ _ _ hm4 hb4
    · have ha2 := al1 (W.drew.alloc (.cells #[tx []] 9)) (.cells #[tx []] 9)
      have hm2 := hm1.later ha2
      have hbx2 := (ha2.block b (Array.getElem?_eq_some_iff.1 hbx1).1).trans hbx1
      refine ⟨_, rfl, rfl, .inl ⟨64, .slice (some ⟨(W.drew.alloc (.cells #[tx []] 9)).heap.size, 0, none⟩) 1 1, (W.drew.alloc (.cells #[tx []] 9)).alloc (.cells #[tx []] 9), rfl, Reg.bs (vs := #[(0, tx [])]) (cs := #[tx []]) i0 (.string ByteArray.empty) rfl (by kernel_rfl) Tryz.underlying30 hi0 hz0 (by rw [hz1]; decide) (by rw [hz1]; decide) (by rw [hz1]; kernel_rfl), .inr hbx2, ?_⟩⟩
      have hc2 := (Boxed.new (W.drew.alloc (.cells #[tx []] 9)) 9 (tx [])).cell
      have hc2' := cell_later ha2 hc1
      have hz2' : ((W.drew.alloc (.cells #[tx []] 9)).alloc (.cells #[tx []] 9)).heap.size = W.heap.size + 2 := by simp
      obtain ⟨vT', W3, hrun, hm3, hch3⟩ := hm2.appT 30 (by rw [hz2']; omega) hc2' hl
      have hbx3 := box_keep hbx2 hm2.t hch3
      refine Rst.one 7 (by simp only [Reg.inB, hsz]; rfl) (by kernel_rfl) ⟨_, rfl, rfl, .inl ⟨59, vT', W3, rfl, Reg.app rfl rfl rfl hrun, (.inr hbx3), ?_⟩⟩
      have hc3 : W3.cell? ⟨(W.drew.alloc (.cells #[tx []] 9)).heap.size, 0, none⟩ = some (tx []) := by
        rw [← hc2]
        have := hch3.block (W.drew.alloc (.cells #[tx []] 9)).heap.size (by rw [hz2', hz1']; omega) (fun e => by have h1 := (own_ty hm1.t e).2.1; omega)
        simp only [World.cell?, this]
      obtain ⟨vN', W4, hrun4, hm4', hch4⟩ := hm3.symm.appT 30 (by have := hm3.chg.size; have e : W.drew.heap.size = W.heap.size := rfl; omega) hc3 hl2
      have hm4 := hm4'.symm
      have hb4 := box_keep hbx3 hm3.n hch4
      refine Rst.one 13 (by simp only [Reg.inB, hsz]; rfl) (by kernel_rfl) ⟨_, rfl, rfl, .inl ⟨65, vN', W4, rfl, Reg.app rfl rfl rfl hrun4, (.inr hb4), ?_⟩⟩
      refine Rst.one 14 (by simp only [Reg.inB, hsz]; rfl) (by kernel_rfl) ⟨_, rfl, rfl, .inl ⟨66, (.pointer (some ⟨b, 0, none⟩)), _, rfl, Reg.nc rfl rfl, (.inl (by kernel_rfl)), ?_⟩⟩
      refine Rst.one 15 (by simp only [Reg.inB, hsz]; rfl) (by kernel_rfl) ⟨_, rfl, rfl, .inl ⟨67, (.pointer (some ⟨b, 0, none⟩)), _, rfl, Reg.fa rfl rfl (.inl rfl), (.inl (by kernel_rfl)), ?_⟩⟩
      refine Rst.one 16 (by simp only [Reg.inB, hsz]; rfl) (by kernel_rfl) ⟨_, rfl, rfl, .inr ⟨_, rfl, Reg.st1 rfl rfl rfl (box0 hb4) (frozen_at hb4) (.inr (own_slice hm4.t)) (Tryz.sizeOf30 _), (.inl (by kernel_rfl)), ?_⟩⟩
      refine Rst.one 17 (by simp only [Reg.inB, hsz]; rfl) (by kernel_rfl) ⟨_, rfl, rfl, .inl ⟨68, (.pointer (some ⟨b, 0, none⟩)), _, rfl, Reg.nc rfl rfl, (.inl (by kernel_rfl)), ?_⟩⟩
      refine Rst.one 18 (by simp only [Reg.inB, hsz]; rfl) (by kernel_rfl) ⟨_, rfl, rfl, .inl ⟨69, (.pointer (some ⟨b, 1, none⟩)), _, rfl, Reg.fa rfl rfl (.inr rfl), (.inl (by kernel_rfl)), ?_⟩⟩
      refine Rst.one 19 (by simp only [Reg.inB, hsz]; rfl) (by kernel_rfl) ⟨_, rfl, rfl, .inr ⟨_, rfl, Reg.st1 rfl rfl rfl (box1 (set_at _ hb4)) (frozen_at (set_at _ hb4)) (.inr (own_slice hm4.n)) (Tryz.sizeOf30 _), (.inl (by kernel_rfl)), ?_⟩⟩
      refine Rst.done (by kernel_rfl) ?_
      rw [ov_cong a (ov_cong a (ov_cong a (ov_cong a (ov_cong a (ov_swap a (p := (59, vT')) (q := (64, _)) _ (by simp))))))]
      exact key _ _ _ _ _ hm4 hb4
  · refine ⟨_, rfl, rfl, .inl ⟨64, .slice (some ⟨W.drew.heap.size, 0, none⟩) 1 1, W.drew.alloc (.cells #[tx []] 9), rfl, Reg.bs (vs := #[(0, tx [])]) (cs := #[tx []]) i0 (.string ByteArray.empty) rfl (by kernel_rfl) Tryz.underlying30 hi0 hz0 (by rw [hz1]; decide) (by rw [hz1]; decide) (by rw [hz1]; kernel_rfl), .inr hbx1, ?_⟩⟩
    have ha2 := al1 (W.drew.alloc (.cells #[tx []] 9)) (.cells #[tx []] 9)
    have hm2 := hm1.later ha2
    have hbx2 := (ha2.block b (Array.getElem?_eq_some_iff.1 hbx1).1).trans hbx1
    refine Rst.one 6 (by simp only [Reg.inB, hsz]; rfl) (by kernel_rfl) ⟨_, rfl, rfl, .inl ⟨58, .slice (some ⟨(W.drew.alloc (.cells #[tx []] 9)).heap.size, 0, none⟩) 1 1, (W.drew.alloc (.cells #[tx []] 9)).alloc (.cells #[tx []] 9), rfl, Reg.bs (vs := #[(0, tx [])]) (cs := #[tx []]) i0 (.string ByteArray.empty) rfl (by kernel_rfl) Tryz.underlying30 hi0 hz0 (by rw [hz1]; decide) (by rw [hz1]; decide) (by rw [hz1]; kernel_rfl), .inr hbx2, ?_⟩⟩
    have hc2 := (Boxed.new (W.drew.alloc (.cells #[tx []] 9)) 9 (tx [])).cell
    have hc2' := cell_later ha2 hc1
    have hz2' : ((W.drew.alloc (.cells #[tx []] 9)).alloc (.cells #[tx []] 9)).heap.size = W.heap.size + 2 := by simp
    obtain ⟨vT', W3, hrun, hm3, hch3⟩ := hm2.appT 30 (by rw [hz2']; omega) hc2 hl
    have hbx3 := box_keep hbx2 hm2.t hch3
    refine Rst.one 7 (by simp only [Reg.inB, hsz]; rfl) (by kernel_rfl) ⟨_, rfl, rfl, .inl ⟨59, vT', W3, rfl, Reg.app rfl rfl rfl hrun, (.inr hbx3), ?_⟩⟩
    have hc3 : W3.cell? ⟨W.drew.heap.size, 0, none⟩ = some (tx []) := by
      rw [← hc2']
      have := hch3.block W.drew.heap.size (by rw [hz2']; show W.heap.size < _; omega) (fun e => by have h1 : W.heap.size < W.heap.size := (own_ty hmid.t e).2.1; omega)
      simp only [World.cell?, this]
    obtain ⟨vN', W4, hrun4, hm4', hch4⟩ := hm3.symm.appT 30 (by have := hm3.chg.size; have e : W.drew.heap.size = W.heap.size := rfl; omega) hc3 hl2
    have hm4 := hm4'.symm
    have hb4 := box_keep hbx3 hm3.n hch4
    refine Rst.one 13 (by simp only [Reg.inB, hsz]; rfl) (by kernel_rfl) ⟨_, rfl, rfl, .inl ⟨65, vN', W4, rfl, Reg.app rfl rfl rfl hrun4, (.inr hb4), ?_⟩⟩
    refine Rst.one 14 (by simp only [Reg.inB, hsz]; rfl) (by kernel_rfl) ⟨_, rfl, rfl, .inl ⟨66, (.pointer (some ⟨b, 0, none⟩)), _, rfl, Reg.nc rfl rfl, (.inl (by kernel_rfl)), ?_⟩⟩
    refine Rst.one 15 (by simp only [Reg.inB, hsz]; rfl) (by kernel_rfl) ⟨_, rfl, rfl, .inl ⟨67, (.pointer (some ⟨b, 0, none⟩)), _, rfl, Reg.fa rfl rfl (.inl rfl), (.inl (by kernel_rfl)), ?_⟩⟩
    refine Rst.one 16 (by simp only [Reg.inB, hsz]; rfl) (by kernel_rfl) ⟨_, rfl, rfl, .inr ⟨_, rfl, Reg.st1 rfl rfl rfl (box0 hb4) (frozen_at hb4) (.inr (own_slice hm4.t)) (Tryz.sizeOf30 _), (.inl (by kernel_rfl)), ?_⟩⟩
    refine Rst.one 17 (by simp only [Reg.inB, hsz]; rfl) (by kernel_rfl) ⟨_, rfl, rfl, .inl ⟨68, (.pointer (some ⟨b, 0, none⟩)), _, rfl, Reg.nc rfl rfl, (.inl (by kernel_rfl)), ?_⟩⟩
    refine Rst.one 18 (by simp only [Reg.inB, hsz]; rfl) (by kernel_rfl) ⟨_, rfl, rfl, .inl ⟨69, (.pointer (some ⟨b, 1, none⟩)), _, rfl, Reg.fa rfl rfl (.inr rfl), (.inl (by kernel_rfl)), ?_⟩⟩
    refine Rst.one 19 (by simp only [Reg.inB, hsz]; rfl) (by kernel_rfl) ⟨_, rfl, rfl, .inr ⟨_, rfl, Reg.st1 rfl rfl rfl (box1 (set_at _ hb4)) (frozen_at (set_at _ hb4)) (.inr (own_slice hm4.n)) (Tryz.sizeOf30 _), (.inl (by kernel_rfl)), ?_⟩⟩
    refine Rst.done (by kernel_rfl) ?_
    rw [ov_cong a (ov_cong a (ov_cong a (ov_cong a (ov_cong a ((ov_cong a (ov_swap a (p := (58, _)) (q := (64, _)) _ (by simp))).trans (ov_swap a (p := (59, vT')) (q := (64, _)) _ (by simp)))))))]
    exact key _ _ _ _ _ hm4 hb4
end C
end Go.Proofs.YtbeihgjonhgfmaaGreatDoor
