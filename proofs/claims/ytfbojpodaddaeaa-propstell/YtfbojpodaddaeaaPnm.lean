/- PropsNames: plain facts, and what its regions do. -/
import Derived.Test.YtfbojpodaddaeaaKnwn
import Derived.Test.YtfbojpodaddaeaaIs
namespace Go.Proofs.Ytfbojpodaddaeaa
open Go.RowKit Go.Shelf

theorem nm_all : ∀ s ∈ nm, kn s.data.toList = true ∧ (tl s.data.toList).all S.good = true ∧ (tl s.data.toList).Pairwise (fun a b => a.2 + 1 < b.1) ∧ 0 < (tl s.data.toList).length := by decide
theorem nm_fact {s : ByteArray} (h : s ∈ nm) : kn s.toList = true ∧ S.Canon (tl s.toList) ∧ 0 < (tl s.toList).length ∧ ∀ r ∈ tl s.toList, -2147483648 ≤ r.1 ∧ r.1 ≤ 2147483647 ∧ -2147483648 ≤ r.2 ∧ r.2 ≤ 2147483647 := by
  obtain ⟨h1, h2, h3, h4⟩ := nm_all s h
  rw [ByteArray.toList_eq]
  have hc := canon_by h2 h3
  refine ⟨h1, hc, h4, fun r hr => ?_⟩
  have := (S.good_iff r).1 (hc.good r hr)
  omega
theorem nm_rise : ∀ k, (hk : k + 1 < nm.length) → ∀ w, (binOp .geq 9 (.string nm[k]) (.string nm[k + 1])).run Try.prog w = .ok (.bool false) w
  | 0, _, _ => by kernel_rfl
  | 1, _, _ => by kernel_rfl
  | 2, _, _ => by kernel_rfl
  | 3, _, _ => by kernel_rfl
  | 4, _, _ => by kernel_rfl
  | 5, _, _ => by kernel_rfl
  | 6, _, _ => by kernel_rfl
  | 7, _, _ => by kernel_rfl
  | 8, _, _ => by kernel_rfl
  | 9, _, _ => by kernel_rfl
  | i + 10, h, _ => absurd h (by simp only [nm, List.length_cons, List.length_nil]; omega)
theorem Reg.geS {w : World} {ρ : Operand → Value} {o : Oper} {x y : Operand} {a b c : Value} (hop : o.op = .binOp .geq 9 x y 9) (hx : ρ x = a) (hy : ρ y = b) (h : (binOp .geq 9 a b).run Try.prog w = .ok c w) : (execOp ρ o).run Try.prog w = .ok (.value c) w := by
  obtain ⟨dst, op, type, pos, after, guard⟩ := o
  simp only at hop
  subst hop
  simp [execOp, hx, hy, eqGuard, h, go_sem, Result.andThen]
theorem Reg.pk {w : World} {ρ : Operand → Value} {o : Oper} {c x y : Operand} {b : Bool} {v : Value} (hop : o.op = .pick c x y) (hc : ρ c = .bool b) (hx : (if b then ρ x else ρ y) = v) : (execOp ρ o).run Try.prog w = .ok (.value v) w := by
  obtain ⟨dst, op, type, pos, after, guard⟩ := o
  simp only at hop
  subst hop
  subst hx
  simp only [execOp, hc]
  cases b <;> rfl
theorem of_at (r : Int) (k : Nat) (hk : k < nm.length) (h : hb r nm[k] = true) : ∃ h2 : ((nm.take k).filter (hb r)).length < (ofL r).length, (ofL r)[((nm.take k).filter (hb r)).length] = nm[k] := by
  have e : ofL r = (nm.take k).filter (hb r) ++ nm[k] :: (nm.drop (k + 1)).filter (hb r) := by
    unfold ofL
    conv => lhs; rw [← List.take_append_drop k nm, List.drop_eq_getElem_cons hk, List.filter_append, List.filter_cons_of_pos h]
  refine ⟨by rw [e]; simp, ?_⟩
  simp only [e]
  rw [List.getElem_append_right (Nat.le_refl _)]
  simp
theorem cnt_step (r : Int) (k : Nat) (hk : k < nm.length) : ((nm.take (k + 1)).filter (hb r)).length = ((nm.take k).filter (hb r)).length + (if hb r nm[k] = true then 1 else 0) := by
  rw [List.take_succ_eq_append_getElem hk, List.filter_append, List.length_append]
  congr 1
  by_cases h : hb r nm[k] = true
  · rw [if_pos h, List.filter_cons_of_pos h]; rfl
  · rw [if_neg h, List.filter_cons_of_neg h]; rfl
end Go.Proofs.Ytfbojpodaddaeaa
