/- More operations in a region that draws: a load of one cell, an index into an array, a new slice. -/
import Derived.Test.YtenheagfijocjaaIs
namespace Go.Proofs.Ytenheagfijocjaa
namespace Reg
open Go.RowKit
theorem ld1 {P : Program} {w : World} {ρ : Operand → Value} {o : Oper} {ty : TypeId} {x : Operand} {a : Addr} {v : Value} (hop : o.op = .load ty x) (hx : ρ x = .pointer (some a)) (hc : w.cell? a = some v) (hagg : (isAgg ty).run P w = .ok false w) : (execOp ρ o).run P w = .ok (.value v) w := by
  obtain ⟨dst, op, type, pos, after, guard⟩ := o
  simp only at hop
  subst hop
  simp [execOp, hx, Instr.loadAt, Instr.sureAddr, loadVar, Sem.run_bind, hagg, hc, Result.andThen]
theorem ixa {P : Program} {w : World} {ρ : Operand → Value} {o : Oper} {t : TypeId} {x y : Operand} {b off k s n : Nat} {q : IntKind} (hop : o.op = .indexAddr t x y) (hx : ρ x = .pointer (some ⟨b, off, none⟩)) (hy : ρ y = .int q (k : Int)) (hn : P.arrayLen t = n) (hk : k < n)
    (ht : P.underlying t = some (.array (P.arrayLen t) (P.elem t))) (hs : (sizeOf (P.elem t)).run P w = .ok s w) : (execOp ρ o).run P w = .ok (.value (.pointer (some ⟨b, off + k * s, none⟩))) w := by
  obtain ⟨dst, op, type, pos, after, guard⟩ := o
  simp only at hop
  subst hop
  have h1 : 0 ≤ (k : Int) ∧ (k : Int) < (P.arrayLen t : Int) := by rw [hn]; omega
  simp only [execOp, hx, hy, Sem.run_bind]
  rw [run_indexAt_array w t ⟨b, off, none⟩ q (k : Int) ht, if_pos h1, hs]
  simp only [Result.andThen, Int.toNat_natCast, Addr.add_mid, Sem.run_pure]
end Reg
/-- A slice of one range, made anew. -/
theorem Reg.bs1 {w : World} {ρ : Operand → Value} {o : Oper} {x : Operand} {u v : Int} (hop : o.op = .buildSlice 22 1 #[(0, x)]) (hx : ρ x = .agg #[.int .i32 u, .int .i32 v]) :
    (execOp ρ o).run Try.prog w = .ok (.value (.slice (some ⟨w.heap.size, 0, none⟩) 1 1)) (w.alloc (.cells #[.int .i32 u, .int .i32 v] 34)) := by
  obtain ⟨dst, op, type, pos, after, guard⟩ := o
  simp only at hop
  subst hop
  have h2 := Try.sizeOf34
  have h3 := Try.zeroValue34
  simp [execOp, hx, go_sem, h2, h3]
end Go.Proofs.Ytenheagfijocjaa
