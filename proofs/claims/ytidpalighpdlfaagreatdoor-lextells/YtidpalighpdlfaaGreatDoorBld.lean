/- strings.Builder: what is written behind, what is told at the end. -/
import Derived.Test.YtidpalighpdlfaaGreatDoorRd
import Derived.Test.YtidpalighpdlfaaGreatDoorShelf
import Derived.Lib.Builder
import Derived.Lib.AppendStr
namespace Go.Proofs.YtidpalighpdlfaaGreatDoor
open Go.RowKit

/-- A builder of the call's own (its block b, its bytes from B on), that holds these bytes. -/
def Bd (B b : Nat) (l : List UInt8) (w : World) : Prop := Lib.IsBuilder 42 5 B b (cB l) w
theorem str_cells (s : ByteArray) : Lib.strCells s = cB (bts s) := rfl
theorem byte_cells (l : List UInt8) : Lib.byteCells l = cB l := rfl
theorem bd_new (w : World) : Bd w.heap.size w.heap.size [] (w.alloc (.cells #[.pointer none, .slice none 0 0] 42)) := Lib.fresh_isBuilder 42 5 w
theorem at_later {B b : Nat} {p : Value} {bs : List Value} {w w' : World} (h : Lib.BuilderAt 42 5 B b p bs w) (hb : Below w.heap.size w w') : Lib.BuilderAt 42 5 B b p bs w' := by
  obtain ⟨hB, v, hbk, hown, hne⟩ := h
  have hlt := Lib.BuilderAt.lt ⟨hB, v, hbk, hown, hne⟩
  exact ⟨hB, v, (hb.block b hlt).trans hbk, World.ownsRow.kept hown (grown_below hb none) (by cases v.ownBlock <;> simp), hne⟩
theorem Bd.later {B b : Nat} {l : List UInt8} {w w' : World} (h : Bd B b l w) (hb : Below w.heap.size w w') : Bd B b l w' := h.elim (fun h => .inl (at_later h hb)) (fun h => .inr (at_later h hb))
theorem size46 : (Tryz.prog.info? 42).map (·.size) = some 2 := by kernel_rfl
theorem lies46 : liesAt Tryz.prog Tryz.prog.depth 42 (2 / Tryz.prog.cellsOf 42) 0 42 1 = true := by kernel_rfl

/-- Every block but the builder's own, and but rows of bytes, stays as it lies. -/
def Kpt (b : Nat) (w w' : World) : Prop := ∀ j cs T fz, w.heap[j]? = some (.cells cs T fz) → T ≠ 5 → j ≠ b → w'.heap[j]? = some (.cells cs T fz)
theorem kpt_refl (b : Nat) (w : World) : Kpt b w w := fun _ _ _ _ h _ _ => h
theorem Kpt.trans {b : Nat} {u v w : World} (h : Kpt b u v) (k : Kpt b v w) : Kpt b u w := fun j cs T fz h0 h1 h2 => k j cs T fz (h j cs T fz h0 h1 h2) h1 h2
theorem Kpt.set {b i : Nat} {w w' : World} (h : Kpt b w w') (v : Value) : Kpt b w (w'.setCell ⟨b, i, none⟩ v) := fun j cs T fz h0 h1 h2 => (Below.heap_setCell w' ⟨b, i, none⟩ v j h2).trans (h j cs T fz h0 h1 h2)
theorem Kpt.alloc {b : Nat} {w w' : World} (h : Kpt b w w') (o : Obj) : Kpt b w (w'.alloc o) := fun j cs T fz h0 h1 h2 => by
  have := h j cs T fz h0 h1 h2
  exact (Below.heap_alloc w' o j (Array.getElem?_eq_some_iff.1 this).1).trans this
theorem Kpt.grown {b B k : Nat} {w w1 w2 : World} {v : Value} {xs : List Value} (h : Kpt b w w1) (ho : w1.ownsRow B 5 1 v k xs) (hg : w1.grownBy w2 v.ownBlock) : Kpt b w w2 := fun j cs T fz h0 h1 h2 => by
  have h3 := h j cs T fz h0 h1 h2
  exact (hg.block j (Array.getElem?_eq_some_iff.1 h3).1 (not_row h3 h1 ho)).trans h3
theorem Kpt.later {b : Nat} {w w1 w2 : World} (h : Kpt b w w1) (hb : Below w1.heap.size w1 w2) : Kpt b w w2 := fun j cs T fz h0 h1 h2 => by
  have h3 := h j cs T fz h0 h1 h2
  exact (hb.block j (Array.getElem?_eq_some_iff.1 h3).1).trans h3
set_option maxHeartbeats 1000000 in
set_option maxRecDepth 100000 in
theorem copy_k (B b : Nat) (l : List UInt8) (w : World) (h : Bd B b l w) : Calls Tryz.prog 28 #[.pointer (some ⟨b, 0, none⟩)] w fun e w' => e = .returned (.tuple #[]) ∧ Lib.BuilderAt 42 5 B b (.pointer (some ⟨b, 0, none⟩)) (cB l) w' ∧ Below B w w' ∧ Kpt b w w' := by
  obtain ⟨j, hj, hjs⟩ := Option.map_eq_some_iff.1 size46
  rcases h with h | h
  · have h0 := h.cell0
    have hf := h.frozen0
    have hsh := h.shape
    have r1 := Lib.run_to_unsafe (P := Tryz.prog) w ⟨b, 0, none⟩ Tryz.underlying39 Tryz.underlying67 hj (by rw [hjs]; decide) hsh (Nat.zero_lt_succ 1)
    have r2 := Lib.run_from_unsafe (P := Tryz.prog) w ⟨b, 0, none⟩ Tryz.underlying67 Tryz.underlying39 hj hsh lies46
    have h2 := h.used (.pointer (some ⟨b, 0, none⟩))
    have hb := (Below.refl B w).setCell (p := ⟨b, 0, none⟩) h.1 (.pointer (some ⟨b, 0, none⟩))
    go_enter Tryz.func28, Tryz.ntmps28
    go_wp2
    rw [run_callFunc_extern Tryz.func44 (by kernel_rfl) (by kernel_rfl) (by kernel_rfl) (e := Extern.AbiNoEscape.same) (by kernel_rfl), Lib.run_noEscape]
    simp only [Result.andThen]
    rw [Oper.upon_value]
    go_wp2
    go_end0
    exact ⟨rfl, h2, hb, (kpt_refl b w).set _⟩
  · have h0 := h.cell0
    have r3 := Lib.run_neq_ptr_same (P := Tryz.prog) w ⟨b, 0, none⟩ Tryz.underlying39 hj
    go_enter Tryz.func28, Tryz.ntmps28
    go_wp2
    go_end0
    exact ⟨rfl, h, Below.refl _ _, kpt_refl _ _⟩
end Go.Proofs.YtidpalighpdlfaaGreatDoor
