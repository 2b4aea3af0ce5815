/- The regions of Cut that append: their operations as the turned text has them. -/
import Derived.Maps.AppendAt
import Derived.Test.YtbkcbclloemajaaRegt
namespace Go.Proofs.Ytbkcbclloemajaa
open Go.RowKit Go.Shelf

def ops11 : Array Oper := #[{ dst := some 39, op := Go.Op.load 25 (Go.Operand.tmp 3), type := 25, pos := "classes.go:46", after := #[], guard := none },
  { dst := some 40, op := Go.Op.load 25 (Go.Operand.tmp 3), type := 25, pos := "classes.go:46", after := #[], guard := none },
  { dst := some 41, op := Go.Op.nilCheck (Go.Operand.tmp 40), type := 0, pos := "classes.go:46", after := #[{ on := 1, ground := Go.Ground.data }], guard := none },
  { dst := some 42, op := Go.Op.fieldAddr 54 (Go.Operand.tmp 41) 1, type := 0, pos := "classes.go:46", after := #[{ on := 2, ground := Go.Ground.data }], guard := none },
  { dst := some 43, op := Go.Op.load 51 (Go.Operand.tmp 42), type := 51, pos := "classes.go:46", after := #[{ on := 3, ground := Go.Ground.data }], guard := none },
  { dst := some 44, op := Go.Op.move (Go.Operand.tmp 6), type := 60, pos := "classes.go:46", after := #[], guard := none },
  { dst := some 45, op := Go.Op.build 63 #[(0, Go.Operand.tmp 44)], type := 63, pos := "classes.go:46", after := #[{ on := 5, ground := Go.Ground.data }], guard := none },
  { dst := some 46, op := Go.Op.buildSlice 51 1 #[(0, Go.Operand.tmp 45)], type := 51, pos := "classes.go:46", after := #[{ on := 6, ground := Go.Ground.data }], guard := none },
  { dst := some 47, op := Go.Op.call { callee := Go.Callee.builtin Go.Builtin.append, args := #[Go.Operand.tmp 43, Go.Operand.tmp 46], argTypes := #[51, 51] }, type := 51, pos := "classes.go:46", after := #[{ on := 4, ground := Go.Ground.data }, { on := 7, ground := Go.Ground.data }], guard := none },
  { dst := some 48, op := Go.Op.nilCheck (Go.Operand.tmp 39), type := 0, pos := "classes.go:46", after := #[{ on := 0, ground := Go.Ground.data }, { on := 0, ground := Go.Ground.phase }, { on := 1, ground := Go.Ground.phase }, { on := 2, ground := Go.Ground.phase }, { on := 3, ground := Go.Ground.phase }, { on := 4, ground := Go.Ground.phase }, { on := 5, ground := Go.Ground.phase }, { on := 6, ground := Go.Ground.phase }, { on := 7, ground := Go.Ground.phase }, { on := 8, ground := Go.Ground.phase }], guard := none },
  { dst := some 49, op := Go.Op.fieldAddr 54 (Go.Operand.tmp 48) 1, type := 0, pos := "classes.go:46", after := #[{ on := 9, ground := Go.Ground.data }, { on := 0, ground := Go.Ground.phase }, { on := 1, ground := Go.Ground.phase }, { on := 2, ground := Go.Ground.phase }, { on := 3, ground := Go.Ground.phase }, { on := 4, ground := Go.Ground.phase }, { on := 5, ground := Go.Ground.phase }, { on := 6, ground := Go.Ground.phase }, { on := 7, ground := Go.Ground.phase }, { on := 8, ground := Go.Ground.phase }], guard := none },
  { dst := none, op := Go.Op.store 51 (Go.Operand.tmp 49) (Go.Operand.tmp 47), type := 0, pos := "classes.go:46", after := #[{ on := 10, ground := Go.Ground.data }, { on := 8, ground := Go.Ground.data }, { on := 8, ground := Go.Ground.chain }, { on := 0, ground := Go.Ground.phase }, { on := 1, ground := Go.Ground.phase }, { on := 2, ground := Go.Ground.phase }, { on := 3, ground := Go.Ground.phase }, { on := 4, ground := Go.Ground.phase }, { on := 5, ground := Go.Ground.phase }, { on := 6, ground := Go.Ground.phase }, { on := 7, ground := Go.Ground.phase }, { on := 8, ground := Go.Ground.phase }], guard := none }]
def ops12 : Array Oper := #[{ dst := some 50, op := Go.Op.load 25 (Go.Operand.tmp 3), type := 25, pos := "classes.go:48", after := #[], guard := none },
  { dst := some 51, op := Go.Op.nilCheck (Go.Operand.tmp 50), type := 0, pos := "classes.go:48", after := #[{ on := 0, ground := Go.Ground.data }], guard := none },
  { dst := some 52, op := Go.Op.fieldAddr 54 (Go.Operand.tmp 51) 1, type := 0, pos := "classes.go:48", after := #[{ on := 1, ground := Go.Ground.data }], guard := none },
  { dst := some 53, op := Go.Op.load 51 (Go.Operand.tmp 52), type := 51, pos := "classes.go:48", after := #[{ on := 2, ground := Go.Ground.data }], guard := none },
  { dst := some 54, op := Go.Op.move (Go.Operand.tmp 7), type := 3, pos := "classes.go:48", after := #[], guard := none },
  { dst := some 55, op := Go.Op.load 25 (Go.Operand.tmp 3), type := 25, pos := "classes.go:48", after := #[], guard := none },
  { dst := some 56, op := Go.Op.nilCheck (Go.Operand.tmp 55), type := 0, pos := "classes.go:48", after := #[{ on := 5, ground := Go.Ground.data }], guard := none },
  { dst := some 57, op := Go.Op.fieldAddr 54 (Go.Operand.tmp 56) 1, type := 0, pos := "classes.go:48", after := #[{ on := 6, ground := Go.Ground.data }], guard := none },
  { dst := some 58, op := Go.Op.load 51 (Go.Operand.tmp 57), type := 51, pos := "classes.go:48", after := #[{ on := 7, ground := Go.Ground.data }], guard := none },
  { dst := some 59, op := Go.Op.move (Go.Operand.tmp 7), type := 3, pos := "classes.go:48", after := #[], guard := none },
  { dst := some 60, op := Go.Op.indexAddr 51 (Go.Operand.tmp 58) (Go.Operand.tmp 59), type := 0, pos := "classes.go:48", after := #[{ on := 8, ground := Go.Ground.data }, { on := 9, ground := Go.Ground.data }], guard := none },
  { dst := some 61, op := Go.Op.fieldAddr 63 (Go.Operand.tmp 60) 1, type := 0, pos := "classes.go:48", after := #[{ on := 10, ground := Go.Ground.data }], guard := none },
  { dst := some 62, op := Go.Op.load 35 (Go.Operand.tmp 61), type := 35, pos := "classes.go:48", after := #[{ on := 11, ground := Go.Ground.data }], guard := none },
  { dst := some 63, op := Go.Op.load 48 (Go.Operand.tmp 5), type := 48, pos := "classes.go:48", after := #[], guard := none },
  { dst := some 64, op := Go.Op.buildSlice 35 1 #[(0, Go.Operand.tmp 63)], type := 35, pos := "classes.go:48", after := #[{ on := 13, ground := Go.Ground.data }], guard := none },
  { dst := some 65, op := Go.Op.call { callee := Go.Callee.builtin Go.Builtin.append, args := #[Go.Operand.tmp 62, Go.Operand.tmp 64], argTypes := #[35, 35] }, type := 35, pos := "classes.go:48", after := #[{ on := 12, ground := Go.Ground.data }, { on := 14, ground := Go.Ground.data }], guard := none },
  { dst := some 66, op := Go.Op.indexAddr 51 (Go.Operand.tmp 53) (Go.Operand.tmp 54), type := 0, pos := "classes.go:48", after := #[{ on := 3, ground := Go.Ground.data }, { on := 4, ground := Go.Ground.data }, { on := 0, ground := Go.Ground.phase }, { on := 1, ground := Go.Ground.phase }, { on := 2, ground := Go.Ground.phase }, { on := 3, ground := Go.Ground.phase }, { on := 4, ground := Go.Ground.phase }, { on := 5, ground := Go.Ground.phase }, { on := 6, ground := Go.Ground.phase }, { on := 7, ground := Go.Ground.phase }, { on := 8, ground := Go.Ground.phase }, { on := 9, ground := Go.Ground.phase }, { on := 10, ground := Go.Ground.phase }, { on := 11, ground := Go.Ground.phase }, { on := 12, ground := Go.Ground.phase }, { on := 13, ground := Go.Ground.phase }, { on := 14, ground := Go.Ground.phase }, { on := 15, ground := Go.Ground.phase }], guard := none },
  { dst := some 67, op := Go.Op.fieldAddr 63 (Go.Operand.tmp 66) 1, type := 0, pos := "classes.go:48", after := #[{ on := 16, ground := Go.Ground.data }, { on := 0, ground := Go.Ground.phase }, { on := 1, ground := Go.Ground.phase }, { on := 2, ground := Go.Ground.phase }, { on := 3, ground := Go.Ground.phase }, { on := 4, ground := Go.Ground.phase }, { on := 5, ground := Go.Ground.phase }, { on := 6, ground := Go.Ground.phase }, { on := 7, ground := Go.Ground.phase }, { on := 8, ground := Go.Ground.phase }, { on := 9, ground := Go.Ground.phase }, { on := 10, ground := Go.Ground.phase }, { on := 11, ground := Go.Ground.phase }, { on := 12, ground := Go.Ground.phase }, { on := 13, ground := Go.Ground.phase }, { on := 14, ground := Go.Ground.phase }, { on := 15, ground := Go.Ground.phase }], guard := none },
  { dst := none, op := Go.Op.store 35 (Go.Operand.tmp 67) (Go.Operand.tmp 65), type := 0, pos := "classes.go:48", after := #[{ on := 17, ground := Go.Ground.data }, { on := 15, ground := Go.Ground.data }, { on := 15, ground := Go.Ground.chain }, { on := 0, ground := Go.Ground.phase }, { on := 1, ground := Go.Ground.phase }, { on := 2, ground := Go.Ground.phase }, { on := 3, ground := Go.Ground.phase }, { on := 4, ground := Go.Ground.phase }, { on := 5, ground := Go.Ground.phase }, { on := 6, ground := Go.Ground.phase }, { on := 7, ground := Go.Ground.phase }, { on := 8, ground := Go.Ground.phase }, { on := 9, ground := Go.Ground.phase }, { on := 10, ground := Go.Ground.phase }, { on := 11, ground := Go.Ground.phase }, { on := 12, ground := Go.Ground.phase }, { on := 13, ground := Go.Ground.phase }, { on := 14, ground := Go.Ground.phase }, { on := 15, ground := Go.Ground.phase }], guard := none }]
def ops13 : Array Oper := #[{ dst := some 68, op := Go.Op.load 25 (Go.Operand.tmp 3), type := 25, pos := "classes.go:49", after := #[], guard := none },
  { dst := some 69, op := Go.Op.load 25 (Go.Operand.tmp 3), type := 25, pos := "classes.go:49", after := #[], guard := none },
  { dst := some 70, op := Go.Op.nilCheck (Go.Operand.tmp 69), type := 0, pos := "classes.go:49", after := #[{ on := 1, ground := Go.Ground.data }], guard := none },
  { dst := some 71, op := Go.Op.fieldAddr 54 (Go.Operand.tmp 70) 2, type := 0, pos := "classes.go:49", after := #[{ on := 2, ground := Go.Ground.data }], guard := none },
  { dst := some 72, op := Go.Op.load 52 (Go.Operand.tmp 71), type := 52, pos := "classes.go:49", after := #[{ on := 3, ground := Go.Ground.data }], guard := none },
  { dst := some 73, op := Go.Op.fieldAddr 48 (Go.Operand.tmp 5) 0, type := 0, pos := "classes.go:49", after := #[], guard := none },
  { dst := some 74, op := Go.Op.load 21 (Go.Operand.tmp 73), type := 21, pos := "classes.go:49", after := #[{ on := 5, ground := Go.Ground.data }], guard := none },
  { dst := some 75, op := Go.Op.move (Go.Operand.tmp 7), type := 3, pos := "classes.go:49", after := #[], guard := none },
  { dst := some 76, op := Go.Op.build 65 #[(0, Go.Operand.tmp 74), (1, Go.Operand.tmp 75)], type := 65, pos := "classes.go:49", after := #[{ on := 6, ground := Go.Ground.data }, { on := 7, ground := Go.Ground.data }], guard := none },
  { dst := some 77, op := Go.Op.buildSlice 52 1 #[(0, Go.Operand.tmp 76)], type := 52, pos := "classes.go:49", after := #[{ on := 8, ground := Go.Ground.data }], guard := none },
  { dst := some 78, op := Go.Op.call { callee := Go.Callee.builtin Go.Builtin.append, args := #[Go.Operand.tmp 72, Go.Operand.tmp 77], argTypes := #[52, 52] }, type := 52, pos := "classes.go:49", after := #[{ on := 4, ground := Go.Ground.data }, { on := 9, ground := Go.Ground.data }], guard := none },
  { dst := some 79, op := Go.Op.nilCheck (Go.Operand.tmp 68), type := 0, pos := "classes.go:49", after := #[{ on := 0, ground := Go.Ground.data }, { on := 0, ground := Go.Ground.phase }, { on := 1, ground := Go.Ground.phase }, { on := 2, ground := Go.Ground.phase }, { on := 3, ground := Go.Ground.phase }, { on := 4, ground := Go.Ground.phase }, { on := 5, ground := Go.Ground.phase }, { on := 6, ground := Go.Ground.phase }, { on := 7, ground := Go.Ground.phase }, { on := 8, ground := Go.Ground.phase }, { on := 9, ground := Go.Ground.phase }, { on := 10, ground := Go.Ground.phase }], guard := none },
  { dst := some 80, op := Go.Op.fieldAddr 54 (Go.Operand.tmp 79) 2, type := 0, pos := "classes.go:49", after := #[{ on := 11, ground := Go.Ground.data }, { on := 0, ground := Go.Ground.phase }, { on := 1, ground := Go.Ground.phase }, { on := 2, ground := Go.Ground.phase }, { on := 3, ground := Go.Ground.phase }, { on := 4, ground := Go.Ground.phase }, { on := 5, ground := Go.Ground.phase }, { on := 6, ground := Go.Ground.phase }, { on := 7, ground := Go.Ground.phase }, { on := 8, ground := Go.Ground.phase }, { on := 9, ground := Go.Ground.phase }, { on := 10, ground := Go.Ground.phase }], guard := none },
  { dst := none, op := Go.Op.store 52 (Go.Operand.tmp 80) (Go.Operand.tmp 78), type := 0, pos := "classes.go:49", after := #[{ on := 12, ground := Go.Ground.data }, { on := 10, ground := Go.Ground.data }, { on := 10, ground := Go.Ground.chain }, { on := 0, ground := Go.Ground.phase }, { on := 1, ground := Go.Ground.phase }, { on := 2, ground := Go.Ground.phase }, { on := 3, ground := Go.Ground.phase }, { on := 4, ground := Go.Ground.phase }, { on := 5, ground := Go.Ground.phase }, { on := 6, ground := Go.Ground.phase }, { on := 7, ground := Go.Ground.phase }, { on := 8, ground := Go.Ground.phase }, { on := 9, ground := Go.Ground.phase }, { on := 10, ground := Go.Ground.phase }], guard := none }]

/-- What lay in the blocks that p does not name lies as it lay. -/
structure Chg (p : Nat → Prop) (A B : World) : Prop where
  os : B.os = A.os
  tape : B.tape = A.tape
  output : B.output = A.output
  size : A.heap.size ≤ B.heap.size
  block : ∀ k, k < A.heap.size → ¬ p k → B.heap[k]? = A.heap[k]?
theorem Chg.trans {p q : Nat → Prop} {A B C : World} (h : Chg p A B) (k : Chg q B C) : Chg (fun i => p i ∨ q i) A C :=
  ⟨k.os.trans h.os, k.tape.trans h.tape, k.output.trans h.output, Nat.le_trans h.size k.size, fun i hi hp => (k.block i (Nat.lt_of_lt_of_le hi h.size) (fun x => hp (.inr x))).trans (h.block i hi (fun x => hp (.inl x)))⟩
theorem Chg.mono {p q : Nat → Prop} {A B : World} (h : Chg p A B) (hpq : ∀ k, k < A.heap.size → p k → q k) : Chg q A B :=
  ⟨h.os, h.tape, h.output, h.size, fun i hi hq => h.block i hi (fun x => hq (hpq i hi x))⟩
theorem Chg.below {A B : World} (h : Below A.heap.size A B) : Chg (fun _ => False) A B := ⟨h.os, h.tape, h.output, h.size, fun k hk _ => h.block k hk⟩

theorem Reg.fa {P : Program} {w : World} {ρ : Operand → Value} {o : Oper} {t : TypeId} {x : Operand} {f : Nat} {v u : Value} (hop : o.op = .fieldAddr t x f) (hx : ρ x = v) (h : (Instr.fieldAt t v f).run P w = .ok u w) : (execOp ρ o).run P w = .ok (.value u) w := by
  obtain ⟨dst, op, type, pos, after, guard⟩ := o
  simp only at hop
  subst hop
  simp [execOp, hx, h, Result.andThen]
theorem fa54_1 (w : World) (b off : Nat) : (Instr.fieldAt 54 (.pointer (some ⟨b, off, none⟩)) 1).run Try.prog w = .ok (.pointer (some ⟨b, off + 1, none⟩)) w := by kernel_rfl
theorem fa54_2 (w : World) (b off : Nat) : (Instr.fieldAt 54 (.pointer (some ⟨b, off, none⟩)) 2).run Try.prog w = .ok (.pointer (some ⟨b, off + 2, none⟩)) w := by kernel_rfl
theorem fa63_1 (w : World) (b off : Nat) : (Instr.fieldAt 63 (.pointer (some ⟨b, off, none⟩)) 1).run Try.prog w = .ok (.pointer (some ⟨b, off + 1, none⟩)) w := by kernel_rfl
theorem fa48_0 (w : World) (b off : Nat) : (Instr.fieldAt 48 (.pointer (some ⟨b, off, none⟩)) 0).run Try.prog w = .ok (.pointer (some ⟨b, off, none⟩)) w := by kernel_rfl
theorem Reg.look_low {a : Act} {t : Nat} : ∀ {l : List (Nat × Value)}, (∀ p ∈ l, t < p.1) → Reg.look a l t = a.tmps.getD t undef
  | [], _ => rfl
  | p :: l, h => by
    have hne : Nat.beq p.1 t = false := by
      cases hb : Nat.beq p.1 t with
      | true => have := Nat.eq_of_beq_eq_true hb; have := h p (by simp); omega
      | false => rfl
    simp only [Reg.look, hne, cond_false]
    exact Reg.look_low fun q hq => h q (by simp [hq])
/-- The frame's first 39 slots are as they were. -/
def Fr (a a' : Act) : Prop := a'.tmps.size = a.tmps.size ∧ ∀ t, t < 39 → a'.tmps.getD t undef = a.tmps.getD t undef
theorem fr_ov {a : Act} {l : List (Nat × Value)} (hb : Reg.inB a l = true) (hl : (l.all fun p => Nat.ble 39 p.1) = true) : Fr a (Reg.ov a l) :=
  ⟨Reg.ov_size a l, fun t ht => by
    rw [Reg.ov_look a t l hb]
    refine Reg.look_low fun p hp => ?_
    have := Nat.le_of_ble_eq_true (List.all_eq_true.1 hl p hp)
    omega⟩

/-- One struct of two cells is appended to a row of the call's own. -/
theorem app_one {T e : TypeId} {z0 z1 : Value} {by_ : Nat} (hT : Try.prog.underlying T = some (.slice e)) (hI : (Try.prog.info? e).map (fun i => (i.zero, i.size, i.bytes)) = some (some (.agg #[z0, z1]), 2, by_)) (hz : (Value.agg #[z0, z1]).cells.size = 2) (hby : by_ ≤ 64)
    (ty : TypeId) {w : World} {B N : Nat} {v c0 c1 : Value} {xs : List Value} (ho : w.ownsRow B e 2 v N xs) (hB : B ≤ w.heap.size) (hN : N ≤ 10000000) (h0 : c0.oneCell' = true) (h1 : c1.oneCell' = true) :
    ∃ v' w', (Builtin.append_ #[T, T] ty #[v, .slice (some ⟨w.heap.size, 0, none⟩) 1 1]).run Try.prog (w.alloc (.cells #[c0, c1] e)) = .ok v' w' ∧ w'.ownsRow B e 2 v' (N + 1) (xs ++ [c0, c1]) ∧ Chg (fun k => some k = v.ownBlock) w w' ∧
      (v'.ownBlock = v.ownBlock ∨ ∃ g, v'.ownBlock = some g ∧ w.heap.size ≤ g) ∧ (∃ g cap, v' = .slice (some ⟨g, 0, none⟩) (N + 1) cap) := by
  obtain ⟨i0, hi, hz0, hz1, hz2⟩ := info_parts2 hI
  have hnew := World.alloc_heap_new w (.cells #[c0, c1] e)
  have hc := cells_two hnew
  obtain ⟨v', w', hr, h2, h3, h4, h5⟩ := run_append_own_at (P := Try.prog) (w.alloc (.cells #[c0, c1] e)) B T ty e i0 _ 2 by_ hT hi hz0 hz1 hz2 hz (by decide) v N xs (ho.alloc _) ⟨w.heap.size, 0, none⟩ 1 1 [c0, c1] rfl
    (fun j u hu => by
      match j, hu with
      | 0, hu => simp at hu; subst hu; exact hc.1
      | 1, hu => simp at hu; subst hu; exact hc.2
      | j + 2, hu => simp at hu) (by simp [h0, h1]) (by unfold maxLen; omega) (by
        have : (N + 1) * by_ ≤ (N + 1) * 64 := Nat.mul_le_mul_left _ hby
        omega) (by simp; omega)
  refine ⟨v', w', hr, h2, ⟨h3.os, h3.tape, h3.output, Nat.le_trans (by simp) h3.size, fun k hk hp => (h3.block k (by simp; omega) hp).trans (Below.heap_alloc _ _ _ hk)⟩, ?_, ?_⟩
  · rcases h5 with h5 | h5
    · exact .inl h5
    · exact .inr ⟨_, h5, by simp⟩
  · obtain ⟨_, ⟨_, h⟩ | ⟨g, cap, _, h, _⟩⟩ := h2
    · cases h
    · exact ⟨g, cap, h⟩
end Go.Proofs.Ytbkcbclloemajaa
