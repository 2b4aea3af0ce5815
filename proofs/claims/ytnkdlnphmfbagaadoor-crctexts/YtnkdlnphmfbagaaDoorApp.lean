/- append(v, b...) of bytes behind a row that the call owns: as a run, as a step of a plain region, as a step of one that draws its order. -/
import Derived.Test.YtnkdlnphmfbagaaDoorKnown
import Derived.Laws.AppendOwnNone
import Derived.Deep.RegionLaw
namespace Go.Proofs.YtnkdlnphmfbagaaDoor
open Go.RowKit

theorem hide {p : Prop} (h : p) : Hid p := h

theorem own_nil (w : World) : Own w w.heap.size (.slice none 0 0) [] := World.ownsRow_nil w _ _ _

theorem Own.block {w : World} {B : Nat} {v : Value} {bs : List UInt8} (h : Own w B v bs) : ∀ k, v.ownBlock = some k → B ≤ k := by
  intro g hg
  obtain ⟨_, ⟨rfl, _⟩ | ⟨g', cap', cur', rfl, hg', _⟩⟩ := h
  · simp [Value.ownBlock] at hg
  · simp [Value.ownBlock] at hg; omega

theorem run_app (w : World) (B : Nat) (v : Value) (bs : List UInt8) (ao : Option Addr) (xs : List UInt8) (cap : Nat) (ty : TypeId) (ho : Own w B v bs) (hB : B ≤ w.heap.size) (hr : Rd w ao xs) (hn : ao = none → cap = 0)
    (hlen : bs.length + xs.length ≤ 10000000) :
    ∃ v' w', (Builtin.append_ #[22, 22] ty #[v, .slice ao xs.length cap]).run Tryd.prog w = .ok v' w' ∧ Own w' B v' (bs ++ xs) ∧ Below B w w' := by
  obtain ⟨i0, hi, hz0, hz1, hz2⟩ := info_parts Tryd.info5
  cases ao with
  | none =>
    have hx : xs = [] := by
      cases xs with
      | nil => rfl
      | cons x l =>
        obtain ⟨_, _, e, _⟩ := hr 0 (by simp)
        cases e
    subst hx
    rw [hn rfl, List.append_nil]
    exact ⟨v, w, run_append_owned_none (P := Tryd.prog) (w := w) B 22 ty 5 i0 1 Tryd.underlying22 hi v bs.length (cellsOf bs) ho, ho, Below.refl _ _⟩
  | some ad =>
    have hnews : ∀ j u, (cellsOf xs)[j]? = some u → w.cell? (ad.add j) = some u := by
      intro j u hu
      obtain ⟨hj, _⟩ := cellsOf_get hu
      obtain ⟨ad', e, h⟩ := hr.cell (by omega)
      cases e
      exact h j u hu
    obtain ⟨v', w', hrun, h1, h2, _⟩ := run_append_own (P := Tryd.prog) w B 22 ty 5 i0 (.int .u8 0) 1 1 Tryd.underlying22 hi hz0 hz1 hz2 rfl (by decide) v bs.length (cellsOf bs) ho ad xs.length cap (cellsOf xs)
      (by rw [cellsOf_length, Nat.mul_one]) hnews (cellsOf_one xs) (by unfold maxLen; omega) (by omega) hB
    refine ⟨v', w', hrun, ?_, (Below.refl _ _).grown h2 hB ho.block⟩
    unfold Own
    rw [cellsOf_append, List.length_append]
    exact h1

/-- A step of a plain region. -/
theorem wpl_app {w : World} {ops : Array Oper} {rest : List Oper} {o : Oper} {a : Act} {Q : Exit → Act → World → Prop} (hgd : o.guard = none) (s x : Operand)
    (hop : o.op = .call { callee := .builtin .append, args := #[s, x], argTypes := #[22, 22] })
    (B : Nat) (v : Value) (bs : List UInt8) (ao : Option Addr) (xs : List UInt8) (cap : Nat) (hs : a.eval s = v) (hx : a.eval x = .slice ao xs.length cap)
    (ho : Own w B v bs) (hB : B ≤ w.heap.size) (hr : Rd w ao xs) (hn : ao = none → cap = 0) (hlen : bs.length + xs.length ≤ 10000000)
    (h : ∀ v' w', Own w' B v' (bs ++ xs) → Below B w w' → wpList Tryd.prog ops Q rest (a.put o.dst v') w') : wpList Tryd.prog ops Q (o :: rest) a w := by
  refine wpList_plain hgd fun K hK => ?_
  obtain ⟨v', w', hrun, h1, h2⟩ := run_app w B v bs ao xs cap o.type ho hB hr hn hlen
  unfold Oper.wp
  simp [execOp, hop, resolve, invoke, builtin, hs, hx, hrun, Result.andThen]
  exact hK _ _ (h v' w' h1 h2)

theorem ite_yes {c : Prop} {dc : Decidable c} {A B : Prop} (hc : c) (h : A) : @ite Prop c dc A B := by rw [if_pos hc]; exact h

/-- A step of a region that draws its order. -/
theorem wp_app {w : World} {o : Oper} {a : Act} {K : Act → World → Prop} {Q : Exit → Act → World → Prop} (s x : Operand)
    (hop : o.op = .call { callee := .builtin .append, args := #[s, x], argTypes := #[22, 22] })
    (B : Nat) (v : Value) (bs : List UInt8) (ao : Option Addr) (xs : List UInt8) (cap : Nat) (hs : a.eval s = v) (hx : a.eval x = .slice ao xs.length cap)
    (ho : Own w B v bs) (hB : B ≤ w.heap.size) (hr : Rd w ao xs) (hn : ao = none → cap = 0) (hlen : bs.length + xs.length ≤ 10000000)
    (h : ∀ v' w', Own w' B v' (bs ++ xs) → Below B w w' → K (a.put o.dst v') w') : Oper.wp Tryd.prog o a w K Q := by
  obtain ⟨v', w', hrun, h1, h2⟩ := run_app w B v bs ao xs cap o.type ho hB hr hn hlen
  unfold Oper.wp
  simp [execOp, hop, resolve, invoke, builtin, hs, hx, hrun, Result.andThen]
  exact h v' w' h1 h2

/-- The same behind nothing. -/
theorem wp_app_nil {w : World} {o : Oper} {a : Act} {K : Act → World → Prop} {Q : Exit → Act → World → Prop} (x : Operand)
    (hop : o.op = .call { callee := .builtin .append, args := #[.const (.slice none 0 0), x], argTypes := #[22, 22] })
    (ao : Option Addr) (xs : List UInt8) (cap : Nat) (hx : a.eval x = .slice ao xs.length cap)
    (hr : Rd w ao xs) (hn : ao = none → cap = 0) (hlen : xs.length ≤ 1000000)
    (h : ∀ v' w', Own w' w.heap.size v' xs → Below w.heap.size w w' → K (a.put o.dst v') w') : Oper.wp Tryd.prog o a w K Q :=
  wp_app _ x hop w.heap.size (.slice none 0 0) [] ao xs cap rfl hx (own_nil w) (Nat.le_refl _) hr hn (by simp; omega) h
end Go.Proofs.YtnkdlnphmfbagaaDoor
