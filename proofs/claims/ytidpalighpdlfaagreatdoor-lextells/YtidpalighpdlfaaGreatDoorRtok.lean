/- Rows of signs that the call itself made. -/
import Derived.Test.YtidpalighpdlfaaGreatDoorSgn
namespace Go.Proofs.YtidpalighpdlfaaGreatDoor
open Go.RowKit

def cK (x : X.Tk × Nat) : List Value := [.int .i64 (x.1.kind : Int), .int .i64 (x.2 : Int), .string ⟨x.1.text.toArray⟩, .int .i32 x.1.r]
def cT (l : List (X.Tk × Nat)) : List Value := l.flatMap cK
theorem cT_length (l : List (X.Tk × Nat)) : (cT l).length = l.length * 4 := by
  induction l with
  | nil => rfl
  | cons x l ih =>
    have : cT (x :: l) = cK x ++ cT l := rfl
    rw [this, List.length_append, ih, List.length_cons]
    simp [cK]
    omega
theorem cT_append (a b : List (X.Tk × Nat)) : cT (a ++ b) = cT a ++ cT b := by simp [cT]
theorem cT_one (x : X.Tk × Nat) : cT [x] = cK x := by simp [cT]
def OwnK (w : World) (B : Nat) (v : Value) (l : List (X.Tk × Nat)) : Prop := w.ownsRow B 33 4 v l.length (cT l)
theorem ownK_nil (w : World) (B : Nat) : OwnK w B (.slice none 0 0) [] := World.ownsRow_nil w _ _ _
theorem OwnK.block {w : World} {B : Nat} {v : Value} {l : List (X.Tk × Nat)} (h : OwnK w B v l) : ∀ k, v.ownBlock = some k → B ≤ k := by
  intro g hg
  obtain ⟨_, ⟨rfl, _⟩ | ⟨g', cap', cur', rfl, hg', _⟩⟩ := h
  · simp [Value.ownBlock] at hg
  · simp [Value.ownBlock] at hg; omega
theorem OwnK.later {w wx : World} {B : Nat} {v : Value} {l : List (X.Tk × Nat)} (h : OwnK w B v l) (hb : Below w.heap.size w wx) : OwnK wx B v l :=
  World.ownsRow.kept h (grown_below hb none) (by cases v.ownBlock <;> simp)
theorem info29 : (Tryz.prog.info? 33).map (fun i => (i.zero, i.size, i.bytes)) = some (some (.agg #[.int .i64 0, .int .i64 0, .string ⟨#[]⟩, .int .i32 0]), 4, 40) := by kernel_rfl
theorem info_partsK {e : TypeId} {z : Value} {n k : Nat} (h : (Tryz.prog.info? e).map (fun i => (i.zero, i.size, i.bytes)) = some (some z, n, k)) : ∃ i, Tryz.prog.info? e = some i ∧ i.zero = some z ∧ i.size = n ∧ i.bytes = k := by
  cases hi : Tryz.prog.info? e with
  | none => rw [hi] at h; cases h
  | some i =>
    rw [hi] at h
    simp at h
    exact ⟨i, rfl, h.1, h.2.1, h.2.2⟩
theorem run_appK (w : World) (B : Nat) (v : Value) (l : List (X.Tk × Nat)) (x : X.Tk × Nat) (g : Nat) (ty : TypeId) (ho : OwnK w B v l) (hB : B ≤ w.heap.size) (hg : w.heap[g]? = some (.cells (cK x).toArray 33)) (hlen : l.length ≤ 1000000) :
    ∃ v' w', (Builtin.append_ #[23, 23] ty #[v, .slice (some ⟨g, 0, none⟩) 1 1]).run Tryz.prog w = .ok v' w' ∧ OwnK w' B v' (l ++ [x]) ∧ Below B w w' := by
  obtain ⟨i0, hi, hz0, hz1, hz2⟩ := info_partsK info29
  obtain ⟨v', w', hrun, h1, h2, _⟩ := run_append_own (P := Tryz.prog) w B 23 ty 33 i0 _ 4 40 Tryz.underlying23 hi hz0 hz1 hz2 rfl (by decide) v l.length (cT l) ho ⟨g, 0, none⟩ 1 1 (cK x) rfl
    (fun j u hu => by
      rw [adAdd]
      simp only [World.cell?, hg, Nat.zero_add]
      simpa using hu) (by intro u hu; simp [cK] at hu; rcases hu with rfl | rfl | rfl | rfl <;> rfl) (by unfold maxLen; omega) (by omega) hB
  refine ⟨v', w', hrun, ?_, (Below.refl _ _).grown h2 hB ho.block⟩
  unfold OwnK
  rw [List.length_append, cT_append, cT_one]
  exact h1
theorem wpl_appK {w : World} {ops : Array Oper} {rest : List Oper} {o : Oper} {a : Act} {Q : Exit → Act → World → Prop} (hgd : o.guard = none) (s x : Operand)
    (hop : o.op = .call { callee := .builtin .append, args := #[s, x], argTypes := #[23, 23] })
    (B : Nat) (v : Value) (l : List (X.Tk × Nat)) (y : X.Tk × Nat) (g : Nat) (hs : a.eval s = v) (hx : a.eval x = .slice (some ⟨g, 0, none⟩) 1 1)
    (ho : OwnK w B v l) (hB : B ≤ w.heap.size) (hg : w.heap[g]? = some (.cells (cK y).toArray 33)) (hlen : l.length ≤ 1000000)
    (h : ∀ v' w', OwnK w' B v' (l ++ [y]) → Below B w w' → wpList Tryz.prog ops Q rest (a.put o.dst v') w') : wpList Tryz.prog ops Q (o :: rest) a w := by
  refine wpList_plain hgd fun K hK => ?_
  obtain ⟨v', w', hrun, h2, h3⟩ := run_appK w B v l y g o.type ho hB hg hlen
  unfold Oper.wp
  simp [execOp, hop, resolve, invoke, builtin, hs, hx, hrun, Result.andThen]
  exact hK _ _ (h v' w' h2 h3)
end Go.Proofs.YtidpalighpdlfaaGreatDoor
