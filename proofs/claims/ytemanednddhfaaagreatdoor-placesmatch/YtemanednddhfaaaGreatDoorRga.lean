/- Regions that draw: stores of signs and nodes. -/
import Derived.Test.YtemanednddhfaaaGreatDoorJD
import Derived.Test.YtemanednddhfaaaGreatDoorTre
namespace Go.Proofs.YtemanednddhfaaaGreatDoor
open Go.RowKit
theorem Reg.onlyS {P : Program} {ops : Array Oper} {Q : Exit → Act → World → Prop} {a : Act} {B fuel : Nat} {ks : List Nat} {l : List (Nat × Value)} {w : World} (i : Nat) (o : Oper) (hi : ops[i]? = some o) (hr : Region.ready .any ops (Reg.lst ops.size ks) = [i]) (hd : o.dst = none) (hb : Reg.inB a l = true) (hw : Reg.wantB ops a l o = true)
   (h : ∃ w' B', (execOp (Reg.ev a l) o).run P w = .ok .skip w' ∧ B ≤ B' ∧ Below B w w' ∧ Reg.G P ops Q a B' fuel (i :: ks) l w') : Reg.G P ops Q a B (fuel + 1) ks l w := by
 obtain ⟨w', B', hrun, hBB, hbl, hg⟩ := h
 refine wpAnyH_all hr (by simp) fun j hj => ?_
 obtain rfl : j = i := by simpa using hj
 unfold wpOp
 simp only [hi]
 rw [if_pos (Reg.wanted_of ops a l o hb hw)]
 refine .inl ?_
 unfold Oper.wp
 rw [Reg.ov_eval a l hb, hrun]
 simp only [Oper.upon, hd]
 exact ⟨hbl, Reg.mono_held (fun x hx => hbl.trans (hx.mono hBB)) _ _ _ _ hg⟩
theorem Reg.ldS {P : Program} {w : World} {ρ : Operand → Value} {o : Oper} {ty : TypeId} {x : Operand} {a : Addr} {v : Value} (hop : o.op = .load ty x) (hx : ρ x = .pointer (some a)) (hc : w.cell? a = some v) (hagg : (isAgg ty).run P w = .ok false w) : (execOp ρ o).run P w = .ok (.value v) w := by
 obtain ⟨dst, op, type, pos, after, guard⟩ := o
 simp only at hop
 subst hop
 simp [execOp, hx, Instr.loadAt, Instr.sureAddr, loadVar, Sem.run_bind, hc, hagg, Result.andThen, go_sem]
def putT (w : World) (b : Nat) (a c : Int) (s : ByteArray) (r : Int) : World := (((w.setCell ⟨b, 0, none⟩ (.int .i64 a)).setCell ⟨b, 1, none⟩ (.int .i64 c)).setCell ⟨b, 2, none⟩ (.string s)).setCell ⟨b, 3, none⟩ (.int .i32 r)
theorem Reg.stT {w : World} {ρ : Operand → Value} {o : Oper} {x y : Operand} {b : Nat} {a c r : Int} {s : ByteArray} {u0 u1 u2 u3 : Value} (hop : o.op = .store 79 x y) (hx : ρ x = .pointer (some ⟨b, 0, none⟩)) (hy : ρ y = .agg #[.int .i64 a, .int .i64 c, .string s, .int .i32 r]) (h : w.heap[b]? = some (.cells #[u0, u1, u2, u3] 79)) : (execOp ρ o).run Tryz.prog w = .ok .skip (putT w b a c s r) := by
 obtain ⟨dst, op, type, pos, after, guard⟩ := o
 simp only at hop
 subst hop
 have hc : ∀ j, j < 4 → ∃ u, w.cell? ⟨b, j, none⟩ = some u ∧ w.frozen? ⟨b, j, none⟩ = false := by
   intro j hj
   match j, hj with
   | 0, _ => exact ⟨u0, by simp [World.cell?, h], by simp [World.frozen?, h]⟩
   | 1, _ => exact ⟨u1, by simp [World.cell?, h], by simp [World.frozen?, h]⟩
   | 2, _ => exact ⟨u2, by simp [World.cell?, h], by simp [World.frozen?, h]⟩
   | 3, _ => exact ⟨u3, by simp [World.cell?, h], by simp [World.frozen?, h]⟩
 obtain ⟨v0, c0, f0⟩ := hc 0 (by omega)
 obtain ⟨v1, c1, f1⟩ := hc 1 (by omega)
 obtain ⟨v2, c2, f2⟩ := hc 2 (by omega)
 obtain ⟨v3, c3, f3⟩ := hc 3 (by omega)
 have hsz := Tryz.sizeOf79 w
 simp [execOp, hx, hy, Instr.storeAt, Instr.sureAddr, storeVar, Sem.run_bind, hsz, Result.andThen, go_sem, c0, c1, c2, c3, f0, f1, f2, f3]
 rfl
theorem putT_box {w : World} {b : Nat} {a c r : Int} {s : ByteArray} {u0 u1 u2 u3 : Value} (h : w.heap[b]? = some (.cells #[u0, u1, u2, u3] 79)) : (putT w b a c s r).heap[b]? = some (.cells #[.int .i64 a, .int .i64 c, .string s, .int .i32 r] 79) := by
 simp [putT, World.setCell, Array.getElem?_modify, h]
theorem putT_below {n : Nat} {w0 w : World} {b : Nat} {a c r : Int} {s : ByteArray} (h : Below n w0 w) (hb : n ≤ b) : Below n w0 (putT w b a c s r) :=
 ((((h.setCell (p := ⟨b, 0, none⟩) hb _).setCell (p := ⟨b, 1, none⟩) hb _).setCell (p := ⟨b, 2, none⟩) hb _).setCell (p := ⟨b, 3, none⟩) hb _)
def putN (w : World) (b : Nat) (v0 v1 v2 v3 v4 : Value) : World := ((((w.setCell ⟨b, 0, none⟩ v0).setCell ⟨b, 1, none⟩ v1).setCell ⟨b, 2, none⟩ v2).setCell ⟨b, 3, none⟩ v3).setCell ⟨b, 4, none⟩ v4
theorem putN_box {w : World} {b : Nat} {v0 v1 v2 v3 v4 u0 u1 u2 u3 u4 : Value} {t : TypeId} (h : w.heap[b]? = some (.cells #[u0, u1, u2, u3, u4] t)) : (putN w b v0 v1 v2 v3 v4).heap[b]? = some (.cells #[v0, v1, v2, v3, v4] t) := by
 simp [putN, World.setCell, Array.getElem?_modify, h]
theorem putN_other {w : World} {b k : Nat} {v0 v1 v2 v3 v4 : Value} (h : k ≠ b) : (putN w b v0 v1 v2 v3 v4).heap[k]? = w.heap[k]? := by
 unfold putN
 rw [Below.heap_setCell _ _ _ _ h, Below.heap_setCell _ _ _ _ h, Below.heap_setCell _ _ _ _ h, Below.heap_setCell _ _ _ _ h, Below.heap_setCell _ _ _ _ h]
theorem putN_size (w : World) (b : Nat) (v0 v1 v2 v3 v4 : Value) : (putN w b v0 v1 v2 v3 v4).heap.size = w.heap.size := by simp [putN, World.setCell]
theorem putN_below {n : Nat} {w0 w : World} {b : Nat} {v0 v1 v2 v3 v4 : Value} (h : Below n w0 w) (hb : n ≤ b) : Below n w0 (putN w b v0 v1 v2 v3 v4) :=
 (((((h.setCell (p := ⟨b, 0, none⟩) hb _).setCell (p := ⟨b, 1, none⟩) hb _).setCell (p := ⟨b, 2, none⟩) hb _).setCell (p := ⟨b, 3, none⟩) hb _).setCell (p := ⟨b, 4, none⟩) hb _)
theorem putN_kp {n x : Nat} {w0 w : World} {b : Nat} {v0 v1 v2 v3 v4 : Value} (h : Kp n x w0 w) (hb : n ≤ b) : Kp n x w0 (putN w b v0 v1 v2 v3 v4) :=
 (((((h.set (p := ⟨b, 0, none⟩) (.inr hb) _).set (p := ⟨b, 1, none⟩) (.inr hb) _).set (p := ⟨b, 2, none⟩) (.inr hb) _).set (p := ⟨b, 3, none⟩) (.inr hb) _).set (p := ⟨b, 4, none⟩) (.inr hb) _)
theorem cells_five {W : World} {k : Nat} {u v x y z : Value} {t : TypeId} (h : W.heap[k]? = some (.cells #[u, v, x, y, z] t)) : W.cell? ⟨k, 0, none⟩ = some u ∧ W.cell? ⟨k, 1, none⟩ = some v ∧ W.cell? ⟨k, 2, none⟩ = some x ∧ W.cell? ⟨k, 3, none⟩ = some y ∧ W.cell? ⟨k, 4, none⟩ = some z := by
 simp [World.cell?, h]
theorem Reg.stN {w : World} {ρ : Operand → Value} {o : Oper} {x y : Operand} {b : Nat} {a c : Int} {s : ByteArray} {sp kp : Option Addr} {sl sc kl kc : Nat} {u0 u1 u2 u3 u4 : Value} (hop : o.op = .store 26 x y) (hx : ρ x = .pointer (some ⟨b, 0, none⟩)) (hy : ρ y = .agg #[.int .i64 a, .int .i64 c, .slice sp sl sc, .string s, .slice kp kl kc]) (h : w.heap[b]? = some (.cells #[u0, u1, u2, u3, u4] 26)) : (execOp ρ o).run Tryz.prog w = .ok .skip (putN w b (.int .i64 a) (.int .i64 c) (.slice sp sl sc) (.string s) (.slice kp kl kc)) := by
 obtain ⟨dst, op, type, pos, after, guard⟩ := o
 simp only at hop
 subst hop
 obtain ⟨c0, c1, c2, c3, c4⟩ := cells_five h
 have f : ∀ j, w.frozen? ⟨b, j, none⟩ = false := fun j => by simp [World.frozen?, h]
 have hsz := Tryz.sizeOf26 w
 simp [execOp, hx, hy, Instr.storeAt, Instr.sureAddr, storeVar, Sem.run_bind, hsz, Result.andThen, go_sem, c0, c1, c2, c3, c4, f]
 rfl
theorem Reg.ldN {w : World} {ρ : Operand → Value} {o : Oper} {x : Operand} {b : Nat} {u0 u1 u2 u3 u4 : Value} {t : TypeId} (hop : o.op = .load 26 x) (hx : ρ x = .pointer (some ⟨b, 0, none⟩)) (h : w.heap[b]? = some (.cells #[u0, u1, u2, u3, u4] t)) : (execOp ρ o).run Tryz.prog w = .ok (.value (.agg #[u0, u1, u2, u3, u4])) w := by
 obtain ⟨dst, op, type, pos, after, guard⟩ := o
 simp only at hop
 subst hop
 obtain ⟨c0, c1, c2, c3, c4⟩ := cells_five h
 have hsz := Tryz.sizeOf26 w
 have hag := Tryz.isAgg26 w
 simp [execOp, hx, Instr.loadAt, Instr.sureAddr, loadVar, Sem.run_bind, hsz, hag, Result.andThen, go_sem, c0, c1, c2, c3, c4]
theorem Rdr.putN {w : World} {R x : Nat} {ao : Option Addr} {cap : Nat} {l : List (X.Tk × Nat)} {i o : Nat} (h : Rdr w R ao cap l i o) (hx : R < x) (v0 v1 v2 v3 v4 : Value) : Rdr (putN w x v0 v1 v2 v3 v4) R ao cap l i o :=
 h.but (fun _ _ hk => putN_other hk) hx
end Go.Proofs.YtemanednddhfaaaGreatDoor
