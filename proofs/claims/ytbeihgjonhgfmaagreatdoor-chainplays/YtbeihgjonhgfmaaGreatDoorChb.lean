/- A forest of the program's in memory; parents' methods. -/
import Derived.Maps.OwnSet
import Derived.Maps.OwnIn
import Derived.Laws.StructEq
import Derived.Shelf.SlMaps.Clone
import Derived.Test.YtbeihgjonhgfmaaGreatDoorTgd
import Derived.Test.YtbeihgjonhgfmaaGreatDoorCha
namespace Go.Proofs.YtbeihgjonhgfmaaGreatDoor
open Go.RowKit Go.Shelf Go.Maps
attribute [local go_sem] Oper.semAt_some
namespace C
/-- A link: the parent that was named; it is named, if it isn't empty. -/
abbrev linkV (p : Tx) : Value := .agg #[.string ⟨p.toArray⟩, .bool (!(p == []))]
theorem linkV_inj {p q : Tx} (h : linkV p = linkV q) : p = q := by
  simp only [linkV, Value.agg.injEq] at h
  have h1 := congrArg (fun a : Array Value => a[0]?) h
  simpa using h1
open Classical in
noncomputable def linkR (v : Value) : Option (DataW Unit × List MemPlace) := if h : ∃ p, v = linkV p then some (.lit (.string (Classical.choose h)), []) else none
theorem linkR_mk (p : Tx) : linkR (linkV p) = some (.lit (.string p), []) := by
  have h : ∃ q, linkV p = linkV q := ⟨p, rfl⟩
  unfold linkR
  rw [dif_pos h, linkV_inj (Classical.choose_spec h).symm]
theorem linkR_inv {v : Value} {p : Tx} {ps : List MemPlace} (h : linkR v = some (.lit (.string p), ps)) : v = linkV p := by
  unfold linkR at h
  split at h
  · rename_i hx
    simp only [Option.some.injEq, Prod.mk.injEq, DataW.lit.injEq, Lit.string.injEq] at h
    rw [← h.1]
    exact Classical.choose_spec hx
  · cases h
def encM (L : Row) : DataW Unit := .map (L.map fun y => (.string y.1, .lit (.string y.2)))
theorem has_enc (L : Row) (x : Tx) : Maps.has (encM L) (.string x) = has L x := by
  unfold encM has
  rw [Maps.has_eq, List.any_map]
  rfl
theorem at_enc (L : Row) (x : Tx) : (encM L).atKey (.string x) (.lit (.string [])) = .lit (.string ((get L x).getD [])) := by
  unfold encM DataW.atKey get
  simp only [List.find?_map]
  have : ((fun p : Lit × DataW Unit => p.1.sameKey (.string x)) ∘ fun y : Tx × Tx => ((.string y.1 : Lit), (.lit (.string y.2) : DataW Unit))) = fun y => y.1 == x := rfl
  rw [this]
  cases L.find? (fun y => y.1 == x) <;> rfl
theorem filter_enc (L : Row) (k : Tx) : (L.map fun y => ((.string y.1 : Lit), (.lit (.string y.2) : DataW Unit))).filter (fun p => !p.1.sameKey (.string k)) = (del L k).map fun y => (.string y.1, .lit (.string y.2)) := by
  unfold del
  rw [List.filter_map]
  rfl
theorem del_enc (L : Row) (k : Tx) : (encM L).del (.string k) = encM (del L k) := by
  unfold encM DataW.del
  simp only
  rw [filter_enc]
theorem ins_enc (k p : Tx) : ∀ L : Row, DataW.insert ((.string k : Lit), (.lit (.string p) : DataW Unit)) (L.map fun y => (.string y.1, .lit (.string y.2))) = (ins (k, p) L).map fun y => (.string y.1, .lit (.string y.2))
  | [] => rfl
  | y :: r => by
    unfold ins
    rw [List.map_cons, DataW.insert]
    have : Lit.before (.string k) (.string y.1) = bytesBefore k y.1 := rfl
    rw [this]
    split
    · rfl
    · rw [List.map_cons, ins_enc k p r]
theorem put_enc (L : Row) (k p : Tx) : (encM L).put (.string k) (.lit (.string p)) = encM (put L k p) := by
  unfold encM DataW.put put
  simp only
  rw [filter_enc, ins_enc]
theorem keys_enc (L : Row) : strKeys (encM L) = ks L := by
  unfold encM strKeys ks
  simp only [List.map_map]
  rfl
theorem size_enc (L : Row) : Maps.size (encM L) = L.length := by
  unfold encM
  rw [Maps.size_eq, List.length_map]
/-- The map of a row; the nil map of none. -/
def MO (w : World) (mb : Option Nat) (L : Row) : Prop := match mb with
  | none => L = []
  | some b => w.ownsMap Tryz.prog 9 linkR b L.length (encM L)
theorem MO.lt {w : World} {b : Nat} {L : Row} (h : MO w (some b) L) : b < w.heap.size := World.ownsMap.lt h
theorem own_tight {w : World} {b n : Nat} {L : Row} (h : w.ownsMap Tryz.prog 9 linkR b n (encM L)) : w.ownsMap Tryz.prog 9 linkR b L.length (encM L) := by
  obtain ⟨es, clock, hb, F, hs, hD⟩ := h
  refine ⟨es, clock, hb, F, ?_, hD⟩
  have h1 := length_read (P := Tryz.prog) (k := 9) (R0 := linkR) es
  unfold encM at hD
  injection hD with hD
  rw [← hD, List.length_map] at h1
  omega
theorem MO.same {w w' : World} {mb : Option Nat} {L : Row} (h : MO w mb L) (hs : ∀ b, mb = some b → w'.heap[b]? = w.heap[b]?) : MO w' mb L := by
  cases mb with
  | none => exact h
  | some b =>
    obtain ⟨es, clock, hb, r⟩ := h
    exact ⟨es, clock, (hs b rfl).trans hb, r⟩
theorem MO.later {w w' : World} {mb : Option Nat} {L : Row} (h : MO w mb L) (hb : Below w.heap.size w w') : MO w' mb L :=
  h.same fun b e => hb.block b (by subst e; exact h.lt)
theorem key_tx {x : Tx} (h : x.length ≤ 9223372036854775807) : keyOf Tryz.prog 9 (tx x) = some (.string x) := by
  simp [keyOf, Tryz.underlying9, mapKey]
  show x.toArray.size ≤ maxLen
  simp [maxLen]
  omega
theorem MO.look {w : World} {mb : Option Nat} {L : Row} (h : MO w mb L) {x : Tx} (hx : x.length ≤ 9223372036854775807) :
    (Instr.lookup 57 (.map mb) (tx x) true).run Tryz.prog w = .ok (.tuple #[linkV ((get L x).getD []), .bool (has L x)]) w := by
  cases mb with
  | none =>
    obtain rfl : L = [] := h
    rw [Maps.look_nil true (string_keyed Tryz.underlying9) Tryz.underlying57 (Tryz.zeroValue64 w) (key_tx hx)]
    rfl
  | some b =>
    obtain ⟨v, ps, h1, h2⟩ := World.ownsMap.look_ok h (string_keyed Tryz.underlying9) Tryz.underlying57 (Tryz.zeroValue64 w) (zd := .lit (.string [])) (zp := []) (linkR_mk []) (key_tx hx)
    rw [at_enc] at h2
    rw [has_enc, linkR_inv h2] at h1
    exact h1
/-- A forest: its cell, its map. -/
structure FO (w : World) (a : Nat) (mb : Option Nat) (L : Row) : Prop where
  box : w.heap[a]? = some (.cells #[.map mb] 61)
  map : MO w mb L
  srt : Srt L
  small : ∀ y ∈ L, y.1.length ≤ 40 ∧ y.2.length ≤ 40
section
variable {w : World} {a : Nat} {mb : Option Nat} {L : Row}
theorem FO.lt (h : FO w a mb L) : a < w.heap.size := (Array.getElem?_eq_some_iff.1 h.box).1
theorem FO.later {w' : World} (h : FO w a mb L) (hb : Below w.heap.size w w') : FO w' a mb L := ⟨(hb.block a h.lt).trans h.box, h.map.later hb, h.srt, h.small⟩
theorem FO.same {w' : World} (h : FO w a mb L) (ha : w'.heap[a]? = w.heap[a]?) (hs : ∀ b, mb = some b → w'.heap[b]? = w.heap[b]?) : FO w' a mb L := ⟨ha.trans h.box, h.map.same hs, h.srt, h.small⟩
theorem FO.cell (h : FO w a mb L) : w.cell? ⟨a, 0, none⟩ = some (.map mb) := by simp [World.cell?, h.box]
theorem FO.get_small (h : FO w a mb L) (x : Tx) : ((get L x).getD []).length ≤ 40 := by
  cases hg : get L x with
  | none => exact Nat.zero_le _
  | some p => exact (h.small _ ((get_mem h.srt).1 hg)).2
end
set_option maxRecDepth 100000 in
set_option maxHeartbeats 1000000 in
theorem of_any {w : World} {a : Nat} {mb : Option Nat} {L : Row} (h : FO w a mb L) (x : Tx) (hx : x.length ≤ 9223372036854775807) :
    Calls Tryz.prog 34 #[.pointer (some ⟨a, 0, none⟩), tx x] w fun e W' => e = .returned (.tuple #[linkV ((get L x).getD []), .bool (has L x)]) ∧ Below w.heap.size w W' := by
  have hlt := h.lt
  have hl1 := (h.map.later (al1 w (.cells #[.string ⟨#[]⟩, .bool false] 64))).look hx
  have hc := h.cell
  generalize get L x = g at *
  generalize has L x = hb at *
  clear h
  unfold tx linkV at *
  generalize (g.getD []) = p at *
  generalize (!(p == [])) = nb at *
  go_enter Tryz.func34, Tryz.ntmps34
  go_wp2
  refine bodyPost_ret (v := .tuple #[.agg #[.string ⟨p.toArray⟩, .bool nb], .bool hb]) ?_ rfl ⟨rfl, ?_⟩
  · simp [results, Tryz.results34, asAddr, loadVar, Sem.run_bind, Result.andThen, go_sem]
  · exact nx (al1 _ _) (al1 _ _)
/-- What is turned: a forest's own blocks at most. -/
structure Alt (w W' : World) (a : Nat) (mb : Option Nat) : Prop where
  os : W'.os = w.os
  tape : W'.tape = w.tape
  output : W'.output = w.output
  size : w.heap.size ≤ W'.heap.size
  block : ∀ i, i < w.heap.size → i ≠ a → mb ≠ some i → W'.heap[i]? = w.heap[i]?
def Nu (w : World) (mb mb' : Option Nat) : Prop := mb' = mb ∨ (mb = none ∧ ∃ b, mb' = some b ∧ w.heap.size ≤ b)
theorem Alt.below {w W' : World} {a n : Nat} {mb : Option Nat} (h : Alt w W' a mb) (ha : n ≤ a) (hm : ∀ b, mb = some b → n ≤ b) (hn : n ≤ w.heap.size) : Below n w W' :=
  ⟨h.os, h.tape, h.output, h.size, fun i hi => h.block i (by omega) (by omega) (fun e => by have := hm i e; omega)⟩

theorem MO.store {w : World} {b : Nat} {L : Row} (h : MO w (some b) L) {k p : Tx} (hk : k.length ≤ 40) (hn : L.length < 1000000) :
    ∃ w', (Instr.mapUpdate 57 (.map (some b)) (tx k) (linkV p)).run Tryz.prog w = .ok () w' ∧ MO w' (some b) (put L k p) ∧ w.grownBy w' (some b) := by
  obtain ⟨w', h1, h2, h3⟩ := World.ownsMap.store h (string_keyed Tryz.underlying9) Tryz.underlying57 (by unfold maxLen; omega) (key_tx (x := k) (by omega)) (linkR_mk p)
  rw [put_enc] at h2
  exact ⟨w', h1, own_tight h2, h3.grown⟩
theorem MO.drop {w : World} {b : Nat} {L : Row} (h : MO w (some b) L) {k : Tx} (hk : k.length ≤ 9223372036854775807) (ty : TypeId) :
    ∃ w', (Builtin.delete_ #[57, 9] ty #[.map (some b), tx k]).run Tryz.prog w = .ok (.tuple #[]) w' ∧ MO w' (some b) (del L k) ∧ w.grownBy w' (some b) := by
  obtain ⟨w', h1, h2, h3⟩ := World.ownsMap.drop h (string_keyed Tryz.underlying9) Tryz.underlying57 (key_tx hk) ty
  rw [del_enc] at h2
  exact ⟨w', h1, own_tight h2, h3.grown⟩
theorem small_put {L : Row} {k p : Tx} (h : ∀ y ∈ L, y.1.length ≤ 40 ∧ y.2.length ≤ 40) (hk : k.length ≤ 40) (hp : p.length ≤ 40) : ∀ y ∈ put L k p, y.1.length ≤ 40 ∧ y.2.length ≤ 40 := fun y hy => by
  rcases mem_put.1 hy with rfl | ⟨hy, _⟩
  · exact ⟨hk, hp⟩
  · exact h y hy
theorem ld2 {w : World} {ρ : Operand → Value} {o : Oper} {x : Operand} {b : Nat} {u v : Value} (hop : o.op = .load 64 x) (hx : ρ x = .pointer (some ⟨b, 0, none⟩)) (hc : w.heap[b]? = some (.cells #[u, v] 64)) : (execOp ρ o).run Tryz.prog w = .ok (.value (.agg #[u, v])) w := by
  have c0 : w.cell? ⟨b, 0, none⟩ = some u := by simp [World.cell?, hc]
  have c1 : w.cell? ⟨b, 1, none⟩ = some v := by simp [World.cell?, hc]
  obtain ⟨dst, op, type, pos, after, guard⟩ := o
  simp only at hop
  subst hop
  simp [execOp, hx, Instr.loadAt, Instr.sureAddr, loadVar, Sem.run_bind, c0, c1, Result.andThen, go_sem]
theorem mu {w w' : World} {ρ : Operand → Value} {o : Oper} {x y z : Operand} {m k v : Value} (hop : o.op = .mapUpdate 57 x y z) (hx : ρ x = m) (hy : ρ y = k) (hz : ρ z = v) (hr : (Instr.mapUpdate 57 m k v).run Tryz.prog w = .ok () w') : (execOp ρ o).run Tryz.prog w = .ok .skip w' := by
  obtain ⟨dst, op, type, pos, after, guard⟩ := o
  simp only at hop
  subst hop
  simp [execOp, hx, hy, hz, hr, Result.andThen]
set_option maxRecDepth 100000 in
set_option maxHeartbeats 2000000 in
theorem set_any {w : World} {a : Nat} {mb : Option Nat} {L : Row} (h : FO w a mb L) (k p : Tx) (hk : k.length ≤ 40) (hp : p.length ≤ 40) (hn : L.length < 1000000) :
    Calls Tryz.prog 27 #[.pointer (some ⟨a, 0, none⟩), tx k, linkV p] w fun e W' => e = .returned (.tuple #[]) ∧ ∃ mb', FO W' a mb' (put L k p) ∧ Alt w W' a mb ∧ Nu w mb mb' := by
  have hlt := h.lt
  have hc := h.cell
  have b1 := al1 w (.cells #[.string ⟨p.toArray⟩, .bool (!(p == []))] 64)
  have h1 := h.later b1
  have k1 := heap_alloc_new w (.cells #[.string ⟨p.toArray⟩, .bool (!(p == []))] 64)
  have s1 := World.size_alloc w (.cells #[.string ⟨p.toArray⟩, .bool (!(p == []))] 64)
  have hq := fun w => run_eql_map_nil_sl (P := Tryz.prog) w 57 9 64 mb Tryz.underlying57
  have hsp := srt_put h.srt k p
  have hsm := small_put h.small hk hp
  cases mb with
  | none =>
    obtain rfl : L = [] := h.map
    obtain ⟨W1, hW1⟩ : ∃ W1, W1 = (w.setCell ⟨a, 0, none⟩ (.map (some (w.heap.size + 1)))) := ⟨_, rfl⟩
    obtain ⟨W2, hW2⟩ : ∃ W2, W2 = (W1.alloc (.cells #[.string ⟨p.toArray⟩, .bool (!(p == []))] 64)) := ⟨_, rfl⟩
    obtain ⟨W3, hW3⟩ : ∃ W3, W3 = (W2.alloc (.map #[] 0)) := ⟨_, rfl⟩
    have z1 : W1.heap.size = w.heap.size := by rw [hW1, set_sz]
    have z2 : W2.heap.size = w.heap.size + 1 := by rw [hW2, World.size_alloc, z1]
    have g2 : Below W1.heap.size W1 W2 := by rw [hW2]; exact al1 _ _
    have g3 : Below W2.heap.size W2 W3 := by rw [hW3]; exact al1 _ _
    have kx1 : W1.heap[a]? = some (.cells #[.map (some (w.heap.size + 1))] 61) := by rw [hW1]; exact set_one h.box _
    have ka : W3.heap[a]? = some (.cells #[.map (some (w.heap.size + 1))] 61) := (g3.block a (by omega)).trans ((g2.block a (by omega)).trans kx1)
    have kb : W3.heap[w.heap.size]? = some (.cells #[.string ⟨p.toArray⟩, .bool (!(p == []))] 64) := by
      refine (g3.block _ (by omega)).trans ?_
      have := heap_alloc_new W1 (.cells #[.string ⟨p.toArray⟩, .bool (!(p == []))] 64)
      rw [z1, ← hW2] at this
      exact this
    have hM3 : MO W3 (some (w.heap.size + 1)) [] := by
      have := World.ownsMap_made W2 Tryz.prog 9 linkR
      rw [z2, ← hW3] at this
      exact this
    have hfr : ∀ i, i < w.heap.size → i ≠ a → W3.heap[i]? = w.heap[i]? := fun i hi hia => (g3.block i (by omega)).trans ((g2.block i (by omega)).trans (by rw [hW1]; exact set_ne _ hia))
    have z3 : W3.heap.size = w.heap.size + 2 := by rw [hW3, World.size_alloc, z2]
    have hos : W3.os = w.os ∧ W3.tape = w.tape ∧ W3.output = w.output := by rw [hW3, hW2, hW1]; exact ⟨rfl, rfl, rfl⟩
    have cx1 : (w.alloc (.cells #[.string ⟨p.toArray⟩, .bool (!(p == []))] 64)).cell? ⟨a, 0, none⟩ = some (.map none) := cell_one h1.box
    have fx1 := froz_one h.box
    have HZ3 := hide z3
    rw [hW2, hW1] at hW3
    have HW3 := hide hW3
    clear b1 h1 k1 z1 z2 z3 g2 g3 kx1 hW1 hW2 hW3
    have hmm := fun W => run_makeMap (P := Tryz.prog) 57 W
    unfold tx linkV at *
    generalize hnb : (!(p == [])) = nb at *
    go_enter Tryz.func27, Tryz.ntmps27
    go_wp2
    rw [← HW3.out]
    clear HW3
    have hbb : w.heap.size ≤ w.heap.size + 1 := by omega
    have hba : w.heap.size + 1 ≠ a := by omega
    generalize hb : w.heap.size + 1 = b at *
    have HS := MO.store (p := p) (w := W3.drew) hM3 hk hn
    unfold tx linkV at HS
    rw [hnb] at HS
    refine Rst.start 6 (fun w' => w'.heap[a]? = some (.cells #[.map (some b)] 61) ∧ w'.heap[w.heap.size]? = some (.cells #[.string ⟨p.toArray⟩, .bool nb] 64)) (by kernel_rfl) ?_
    refine Rst.take (fun _ _ _ _ _ h => h) 0 _ 15 (.pointer (some ⟨a, 0, none⟩)) rfl (by kernel_rfl) rfl (by kernel_rfl) (by kernel_rfl) ⟨ka, kb⟩ (fun w' hw => by kernel_rfl) ?_
    refine Rst.take (fun _ _ _ _ _ h => h) 1 _ 16 (.pointer (some ⟨a, 0, none⟩)) rfl (by kernel_rfl) rfl (by kernel_rfl) (by kernel_rfl) ⟨ka, kb⟩ (fun w' hw => by kernel_rfl) ?_
    refine Rst.take (fun _ _ _ _ _ h => h) 2 _ 17 (.pointer (some ⟨a, 0, none⟩)) rfl (by kernel_rfl) rfl (by kernel_rfl) (by kernel_rfl) ⟨ka, kb⟩ (fun w' hw => by kernel_rfl) ?_
    refine Rst.take (fun _ _ _ _ _ h => h) 3 _ 18 (.map (some b)) rfl (by kernel_rfl) rfl (by kernel_rfl) (by kernel_rfl) ⟨ka, kb⟩ (fun w' hw => Reg.ldS rfl rfl (cell_one hw.1) (Tryz.isAgg57 _)) ?_
    refine Rst.take (fun _ _ _ _ _ h => h) 4 _ 19 (tx k) rfl (by kernel_rfl) rfl (by kernel_rfl) (by kernel_rfl) ⟨ka, kb⟩ (fun w' hw => by kernel_rfl) ?_
    refine Rst.take (fun _ _ _ _ _ h => h) 5 _ 20 (.agg #[.string ⟨p.toArray⟩, .bool nb]) rfl (by kernel_rfl) rfl (by kernel_rfl) (by kernel_rfl) ⟨ka, kb⟩ (fun w' hw => ld2 rfl rfl hw.2) ?_
    obtain ⟨W4, hr2, hM2, hg2⟩ := HS
    refine Rst.last _ rfl (by kernel_rfl) rfl (by kernel_rfl) (by kernel_rfl) ⟨W4, mu rfl rfl rfl rfl hr2, ?_⟩
    refine Rst.done (by kernel_rfl) ?_
    simp only [Reg.ov, Act.put, List.setIfInBounds_toArray, List.set_cons_succ, List.set_cons_zero]
    go_end0
    refine ⟨rfl, some b, ⟨?_, hM2, hsp, hsm⟩, ?_, .inr ⟨rfl, b, rfl, hbb⟩⟩
    · exact (hg2.block a (show a < W3.heap.size by have := HZ3.out; omega) (fun e => hba (by cases e; rfl))).trans ka
    · exact ⟨hg2.os.trans hos.1, hg2.tape.trans hos.2.1, hg2.output.trans hos.2.2, Nat.le_trans (by have := HZ3.out; show w.heap.size ≤ W3.heap.size; omega) hg2.size, fun i hi h1 h2 => (hg2.block i (show i < W3.heap.size by have := HZ3.out; omega) (fun e => by cases e; omega)).trans (hfr i hi h1)⟩
  | some b =>
    have hba : b ≠ a := fun e => by
      obtain ⟨es, c, hb, _⟩ := h.map
      rw [e, h.box] at hb; cases hb
    have hM1 := h1.map
    have HS : ∃ w', (Instr.mapUpdate 57 (.map (some b)) (tx k) (linkV p)).run Tryz.prog (w.alloc (.cells #[.string ⟨p.toArray⟩, .bool (!(p == []))] 64)).drew = .ok () w' ∧ MO w' (some b) (put L k p) ∧ (w.alloc (.cells #[.string ⟨p.toArray⟩, .bool (!(p == []))] 64)).drew.grownBy w' (some b) := MO.store (w := (w.alloc (.cells #[.string ⟨p.toArray⟩, .bool (!(p == []))] 64)).drew) hM1 hk hn
    have ka := h1.box
    have kb := k1
    unfold tx linkV at *
    generalize (!(p == [])) = nb at *
    go_enter Tryz.func27, Tryz.ntmps27
    go_wp2
    refine Rst.start 6 (fun w' => w'.heap[a]? = some (.cells #[.map (some b)] 61) ∧ w'.heap[w.heap.size]? = some (.cells #[.string ⟨p.toArray⟩, .bool nb] 64)) (by kernel_rfl) ?_
    refine Rst.take (fun _ _ _ _ _ h => h) 0 _ 15 (.pointer (some ⟨a, 0, none⟩)) rfl (by kernel_rfl) rfl (by kernel_rfl) (by kernel_rfl) ⟨ka, kb⟩ (fun w' hw => by kernel_rfl) ?_
    refine Rst.take (fun _ _ _ _ _ h => h) 1 _ 16 (.pointer (some ⟨a, 0, none⟩)) rfl (by kernel_rfl) rfl (by kernel_rfl) (by kernel_rfl) ⟨ka, kb⟩ (fun w' hw => by kernel_rfl) ?_
    refine Rst.take (fun _ _ _ _ _ h => h) 2 _ 17 (.pointer (some ⟨a, 0, none⟩)) rfl (by kernel_rfl) rfl (by kernel_rfl) (by kernel_rfl) ⟨ka, kb⟩ (fun w' hw => by kernel_rfl) ?_
    refine Rst.take (fun _ _ _ _ _ h => h) 3 _ 18 (.map (some b)) rfl (by kernel_rfl) rfl (by kernel_rfl) (by kernel_rfl) ⟨ka, kb⟩ (fun w' hw => Reg.ldS rfl rfl (cell_one hw.1) (Tryz.isAgg57 _)) ?_
    refine Rst.take (fun _ _ _ _ _ h => h) 4 _ 19 (tx k) rfl (by kernel_rfl) rfl (by kernel_rfl) (by kernel_rfl) ⟨ka, kb⟩ (fun w' hw => by kernel_rfl) ?_
    refine Rst.take (fun _ _ _ _ _ h => h) 5 _ 20 (.agg #[.string ⟨p.toArray⟩, .bool nb]) rfl (by kernel_rfl) rfl (by kernel_rfl) (by kernel_rfl) ⟨ka, kb⟩ (fun w' hw => ld2 rfl rfl hw.2) ?_
    obtain ⟨W4, hr2, hM2, hg2⟩ := HS
    refine Rst.last _ rfl (by kernel_rfl) rfl (by kernel_rfl) (by kernel_rfl) ⟨W4, mu rfl rfl rfl rfl hr2, ?_⟩
    refine Rst.done (by kernel_rfl) ?_
    simp only [Reg.ov, Act.put, List.setIfInBounds_toArray, List.set_cons_succ, List.set_cons_zero]
    go_end0
    refine ⟨rfl, some b, ⟨?_, hM2, hsp, hsm⟩, ?_, .inl rfl⟩
    · exact (hg2.block a (by simp; omega) (fun e => hba (by cases e; rfl))).trans ka
    · exact ⟨hg2.os, hg2.tape, hg2.output, Nat.le_trans (by simp) hg2.size, fun i hi h1 h2 => (hg2.block i (by simp; omega) (fun e => h2 (by rw [e]))).trans (Below.heap_alloc _ _ _ hi)⟩
set_option maxRecDepth 100000 in
set_option maxHeartbeats 1000000 in
theorem drop_any {w : World} {a : Nat} {mb : Option Nat} {L : Row} (h : FO w a mb L) (x : Tx) (hx : x.length ≤ 9223372036854775807) :
    Calls Tryz.prog 33 #[.pointer (some ⟨a, 0, none⟩), tx x] w fun e W' => e = .returned (.tuple #[]) ∧ FO W' a mb (del L x) ∧ Alt w W' a mb := by
  have hc := h.cell
  have hlt := h.lt
  cases mb with
  | none =>
    have hd := fun ty => Maps.drop_nil (P := Tryz.prog) (w := w) (string_keyed Tryz.underlying9) Tryz.underlying57 (key_tx hx) ty
    obtain rfl : L = [] := h.map
    unfold tx at *
    go_enter Tryz.func33, Tryz.ntmps33
    go_wp2
    go_end0
    exact ⟨rfl, h, ⟨rfl, rfl, rfl, Nat.le_refl _, fun _ _ _ _ => rfl⟩⟩
  | some b =>
    have hba : b ≠ a := fun e => by
      obtain ⟨es, c, hb, _⟩ := h.map
      rw [e, h.box] at hb; cases hb
    obtain ⟨W', hr, hM, hg⟩ := MO.drop h.map hx 0
    unfold tx at *
    go_enter Tryz.func33, Tryz.ntmps33
    go_wp2
    go_end0
    exact ⟨rfl, ⟨(hg.block a hlt (fun e => hba (by cases e; rfl))).trans h.box, hM, srt_del h.srt x, fun y hy => h.small y (mem_del.1 hy).1⟩, ⟨hg.os, hg.tape, hg.output, hg.size, fun i hi h1 h2 => hg.block i hi (fun e => h2 (by rw [e]))⟩⟩
set_option maxRecDepth 100000 in
set_option maxHeartbeats 1000000 in
theorem has_any {w : World} {a : Nat} {mb : Option Nat} {L : Row} (h : FO w a mb L) (x : Tx) (hx : x.length ≤ 9223372036854775807) :
    Calls Tryz.prog 17 #[.pointer (some ⟨a, 0, none⟩), tx x] w fun e W' => e = .returned (.bool (has L x)) ∧ Below w.heap.size w W' := by
  have ho := of_any h x hx
  unfold tx linkV at *
  generalize has L x = hb at *
  generalize (get L x).getD [] = p at *
  generalize (!(p == [])) = nb at *
  clear h
  go_enter Tryz.func17, Tryz.ntmps17
  go_wp2_with fail
  refine ho.mono ?_
  rintro e w1 ⟨rfl, b1⟩
  clear ho
  go_wp2
  go_ret
  exact ⟨rfl, nx b1 (al1 _ _)⟩
set_option maxRecDepth 100000 in
set_option maxHeartbeats 1000000 in
theorem new_any (w : World) : Calls Tryz.prog 10 #[] w fun e W' => e = .returned (.pointer (some ⟨w.heap.size, 0, none⟩)) ∧ FO W' w.heap.size none [] ∧ Below w.heap.size w W' := by
  go_enter Tryz.func10, Tryz.ntmps10
  go_wp2
  go_ret
  exact ⟨rfl, ⟨heap_alloc_new _ _, rfl, List.Pairwise.nil, fun _ h => by cases h⟩, al1 _ _⟩
set_option maxRecDepth 100000 in
set_option maxHeartbeats 1000000 in
theorem dropF_any {w : World} {a : Nat} {mb : Option Nat} {L : Row} (h : FO w a mb L) (x : Tx) (hx : x.length ≤ 9223372036854775807) :
    Calls Tryz.prog 16 #[.pointer (some ⟨a, 0, none⟩), tx x] w fun e W' => e = .returned (.int .i64 (if has L x then 0 else 240)) ∧ FO W' a mb (del L x) ∧ Alt w W' a mb := by
  have ho := has_any h x hx
  have hd := fun W hW => drop_any (w := W) (h.later hW) x hx
  have HD : has L x = false → del L x = L := fun hf => by
    unfold del
    rw [List.filter_eq_self]
    intro y hy
    cases hyx : y.1 == x with
    | false => rfl
    | true => have := List.any_eq_false.1 hf y hy; rw [hyx] at this; exact absurd rfl this
  have HH := hide h
  unfold tx at *
  cases hb : has L x with
  | false =>
    have HL := hide (HD hb)
    rw [hb] at ho
    clear hb h HD hd
    go_enter Tryz.func16, Tryz.ntmps16
    go_wp2_with fail
    refine ho.mono ?_
    rintro e w1 ⟨rfl, b1⟩
    clear ho
    go_wp2
    go_ret
    exact ⟨rfl, by rw [HL.out]; exact HH.out.later b1, ⟨b1.os, b1.tape, b1.output, b1.size, fun i hi _ _ => b1.block i hi⟩⟩
  | true =>
    rw [hb] at ho
    clear hb h HD
    go_enter Tryz.func16, Tryz.ntmps16
    go_wp2_with fail
    refine ho.mono ?_
    rintro e w1 ⟨rfl, b1⟩
    clear ho
    go_wp2_with fail
    refine (hd w1 b1).mono ?_
    rintro e w2 ⟨rfl, h2, a2⟩
    clear hd
    go_wp2
    go_ret
    have h1 := b1.size
    exact ⟨rfl, h2, ⟨a2.os.trans b1.os, a2.tape.trans b1.tape, a2.output.trans b1.output, Nat.le_trans b1.size a2.size, fun i hi h1 h2 => (a2.block i (by omega) h1 h2).trans (b1.block i hi)⟩⟩
end C
end Go.Proofs.YtbeihgjonhgfmaaGreatDoor
