/- Appends to rows of ranges; a row's last range joined with more; an index in a region that draws. -/
import Derived.Sort.Row
import Derived.Test.YtbkcbclloemajaaColl
namespace Go.Proofs.Ytbkcbclloemajaa
open Go.RowKit Go.Shelf

theorem Reg.ix {P : Program} {w : World} {ρ : Operand → Value} {o : Oper} {t : TypeId} {x y : Operand} {b off len cap k s : Nat} {q : IntKind} (hop : o.op = .indexAddr t x y) (hx : ρ x = .slice (some ⟨b, off, none⟩) len cap) (hy : ρ y = .int q (k : Int)) (hk : k < len)
    (ht : P.underlying t = some (.slice (P.elem t))) (hs : (sizeOf (P.elem t)).run P w = .ok s w) : (execOp ρ o).run P w = .ok (.value (.pointer (some ⟨b, off + k * s, none⟩))) w := by
  obtain ⟨dst, op, type, pos, after, guard⟩ := o
  simp only at hop
  subst hop
  have h1 : 0 ≤ (k : Int) ∧ (k : Int) < (len : Int) := by omega
  simp only [execOp, hx, hy, Sem.run_bind]
  rw [run_indexAt_slice w t ⟨b, off, none⟩ len cap q (k : Int) ht, if_pos h1, hs]
  simp only [Result.andThen, Int.toNat_natCast, Addr.add_mid, Sem.run_pure]

theorem Reg.lss {P : Program} {w : World} {ρ : Operand → Value} {o : Oper} {t t' : TypeId} {x y : Operand} {k : IntKind} {m n : Int} {b : Bool} (hop : o.op = .binOp .lss t x y t') (hx : ρ x = .int k m) (hy : ρ y = .int k n) (h : decide (m < n) = b) :
    (execOp ρ o).run P w = .ok (.value (.bool b)) w := by
  obtain ⟨dst, op, type, pos, after, guard⟩ := o
  simp only at hop
  subst hop
  subst h
  simp [execOp, hx, hy, eqGuard, binOp, Op.intCmp]
theorem Reg.done_at {P : Program} {ops : Array Oper} {Q : Exit → Act → World → Prop} {a : Act} {B fuel : Nat} {ks : List Nat} {l : List (Nat × Value)} {w : World} (hr : Region.ready .any ops (Reg.lst ops.size ks) = []) (a' : Act) (he : Reg.ov a l = a') (h : Q .normal a' w) : Reg.G P ops Q a B fuel ks l w :=
  Reg.done hr (by rw [he]; exact h)

namespace Reg
/-- Not asked for: its guard says no, or was itself not asked. -/
def nowB (ops : Array Oper) (a : Act) (l : List (Nat × Value)) (o : Oper) : Bool :=
  match o.guard with
  | none => false
  | some (j, want) => match (ops[j]?).bind (·.dst) with
    | none => false
    | some d => Nat.blt d a.tmps.size && (match look a l d with
      | .bool b => b != want
      | _ => true)
theorem unwanted_of (ops : Array Oper) (a : Act) (l : List (Nat × Value)) (o : Oper) (hb : inB a l = true) (h : nowB ops a l o = true) : Region.wanted o (yielded ops (ov a l).tmps) = false := by
  unfold nowB at h
  unfold Region.wanted
  split at h
  · cases h
  · rename_i j want hg
    rw [hg]
    simp only
    split at h
    · cases h
    · rename_i d hd
      simp only [Bool.and_eq_true] at h
      have hlt : d < (ov a l).tmps.size := by rw [ov_size]; have := h.1; rw [Nat.blt_eq] at this; exact this
      have hlk := ov_look a d l hb
      unfold yielded
      rw [hd, Option.bind_some]
      have e : (ov a l).tmps[d]? = some (look a l d) := by
        rw [← hlk, Array.getElem?_eq_getElem hlt]
        simp [Array.getD, hlt]
      rw [e]
      have h2 := h.2
      generalize look a l d = v at *
      cases v <;> simp_all
theorem skip {P : Program} {ops : Array Oper} {Q : Exit → Act → World → Prop} {a : Act} {B fuel : Nat} {ks : List Nat} {l : List (Nat × Value)} {w : World} (hQ : ∀ c (a : Act) (d : Nat) v w, Q (.panic c) (a.put (some d) v) w → Q (.panic c) a w) (i : Nat) (o : Oper) (d : Nat) (hi : ops[i]? = some o) (hs : Region.noSelect ops = true) (hf : Region.free .any ops (lst ops.size ks) i = true)
    (hr : (Region.ready .any ops (lst ops.size ks)).contains i = true) (hd : o.dst = some d) (hb : inB a l = true) (hw : nowB ops a l o = true)
    (h : G P ops Q a B fuel (i :: ks) ((d, undef) :: l) w) : G P ops Q a B (fuel + 1) ks l w := by
  refine wpAnyH_take (v := undef) hi hs hf hr (fun c a' w' hh => hQ c a' d undef w' (by rw [hd] at hh; exact hh)) (.inr ⟨unwanted_of ops a l o hb hw, rfl⟩) (Below.refl _ _) ?_
  rw [hd]; exact h
end Reg

theorem OwnR.later {w w' : World} {B : Nat} {e : TypeId} {v : Value} {xs : List S.R} (h : OwnR w B e v xs) (hb : Below w.heap.size w w') : OwnR w' B e v xs := by
  obtain ⟨h1, h2 | ⟨g, cap, cur, rfl, h3, hg, h4⟩⟩ := h
  · exact ⟨h1, .inl h2⟩
  · exact ⟨h1, .inr ⟨g, cap, cur, rfl, h3, (hb.block g (Array.getElem?_eq_some_iff.1 hg).1).trans hg, h4⟩⟩
theorem rdr_new (w : World) (x y : Int) (t : TypeId) : RdR (w.alloc (.cells #[.int .i32 x, .int .i32 y] t)) (some ⟨w.heap.size, 0, none⟩) [(x, y)] := by
  have h := cells_two (World.alloc_heap_new w (.cells #[.int .i32 x, .int .i32 y] t))
  intro i hi
  obtain rfl : i = 0 := by simpa using hi
  exact ⟨_, 0, rfl, h.1, h.2⟩
theorem RdR.cells {w : World} {b off : Nat} {xs : List S.R} (h : RdR w (some ⟨b, off, none⟩) xs) : ∀ j u, (cR xs)[j]? = some u → w.cell? ((⟨b, off, none⟩ : Addr).add j) = some u := by
  intro j u hu
  have hj : j < xs.length * 2 := by rw [← cR_length]; exact (List.getElem?_eq_some_iff.1 hu).1
  have hj2 : j / 2 < xs.length := by omega
  obtain ⟨b', off', e, h1, h2⟩ := h (j / 2) hj2
  cases e
  have ha := cR_at xs (j / 2) hj2
  rw [Addr.add_mid]
  rcases Nat.mod_two_eq_zero_or_one j with hm | hm
  · rw [show off + j = off + j / 2 * 2 by omega, h1]
    rw [show j = j / 2 * 2 by omega, ha.1] at hu
    exact hu
  · rw [show off + j = off + j / 2 * 2 + 1 by omega, h2]
    rw [show j = j / 2 * 2 + 1 by omega, ha.2] at hu
    exact hu

theorem run_appR {T e : TypeId} (hT : Try.prog.underlying T = some (.slice e)) (hI : (Try.prog.info? e).map (fun i => (i.zero, i.size, i.bytes)) = some (some (.agg #[.int .i32 0, .int .i32 0]), 2, 8))
    (w : World) (B : Nat) (v : Value) (xs : List S.R) (ao : Option Addr) (ys : List S.R) (cap : Nat) (ty : TypeId) (ho : OwnR w B e v xs) (hB : B ≤ w.heap.size) (hr : RdR w ao ys) (hn : ao = none → cap = 0) (hlen : xs.length + ys.length ≤ 10000000) :
    ∃ v' w', (Builtin.append_ #[T, T] ty #[v, .slice ao ys.length cap]).run Try.prog w = .ok v' w' ∧ OwnR w' B e v' (xs ++ ys) ∧ Below B w w' ∧ w.grownBy w' v.ownBlock := by
  obtain ⟨i0, hi, hz0, hz1, hz2⟩ := info_parts2 hI
  have hm : (xs.length + ys.length) * 8 ≤ 140737488355328 := by omega
  cases ao with
  | none =>
    have hx : ys = [] := by
      cases ys with
      | nil => rfl
      | cons x l =>
        obtain ⟨_, _, e, _⟩ := hr 0 (by simp)
        cases e
    subst hx
    rw [hn rfl, List.append_nil]
    exact ⟨v, w, run_append_owned_none (P := Try.prog) (w := w) B T ty e i0 2 hT hi v xs.length (cR xs) ho, ho, Below.refl _ _, ⟨rfl, rfl, rfl, Nat.le_refl _, fun _ _ _ => rfl⟩⟩
  | some ad =>
    obtain ⟨v', w', hrun, h1, h2, _⟩ := run_append_own (P := Try.prog) w B T ty e i0 _ 2 8 hT hi hz0 hz1 hz2 rfl (by decide) v xs.length (cR xs) ho ad ys.length cap (cR ys) (cR_length ys)
      (fun j u hu => by
        have hj : j < ys.length * 2 := by rw [← cR_length]; exact (List.getElem?_eq_some_iff.1 hu).1
        obtain ⟨b, off, e, _⟩ := hr 0 (by omega)
        cases e
        exact hr.cells j u hu) (cR_one ys) (by unfold maxLen; omega) hm hB
    refine ⟨v', w', hrun, ?_, (Below.refl _ _).grown h2 hB ho.block, h2⟩
    unfold OwnR
    rw [List.length_append, cR_append]
    exact h1

theorem wpl_appR {T e : TypeId} (hT : Try.prog.underlying T = some (.slice e)) (hI : (Try.prog.info? e).map (fun i => (i.zero, i.size, i.bytes)) = some (some (.agg #[.int .i32 0, .int .i32 0]), 2, 8))
    {w : World} {ops : Array Oper} {rest : List Oper} {o : Oper} {a : Act} {Q : Exit → Act → World → Prop} (hgd : o.guard = none) (s x : Operand)
    (hop : o.op = .call { callee := .builtin .append, args := #[s, x], argTypes := #[T, T] })
    (B : Nat) (v : Value) (xs : List S.R) (ao : Option Addr) (ys : List S.R) (n cap : Nat) (hxl : n = ys.length) (hs : a.eval s = v) (hx : a.eval x = .slice ao n cap)
    (ho : OwnR w B e v xs) (hB : B ≤ w.heap.size) (hr : RdR w ao ys) (hn : ao = none → cap = 0) (hlen : xs.length + ys.length ≤ 10000000)
    (h : ∀ v' w', OwnR w' B e v' (xs ++ ys) → Below B w w' → w.grownBy w' v.ownBlock → wpList Try.prog ops Q rest (a.put o.dst v') w') : wpList Try.prog ops Q (o :: rest) a w := by
  subst hxl
  refine wpList_plain hgd fun K hK => ?_
  obtain ⟨v', w', hrun, h2, h3, h4⟩ := run_appR hT hI w B v xs ao ys cap o.type ho hB hr hn hlen
  unfold Oper.wp
  simp [execOp, hop, resolve, invoke, builtin, hs, hx, hrun, Result.andThen]
  exact hK _ _ (h v' w' h2 h3 h4)

theorem cR_set (o : List S.R) (z : S.R) (y : Int) : (cR (o ++ [z])).set (o.length * 2 + 1) (.int .i32 y) = cR (o ++ [(z.1, y)]) := by
  induction o with
  | nil => rfl
  | cons x o ih =>
    rw [List.cons_append, List.cons_append, cR_cons, cR_cons, List.length_cons, show (o.length + 1) * 2 + 1 = (o.length * 2 + 1) + 1 + 1 by omega, List.set_cons_succ, List.set_cons_succ, ih]

/-- The last range's second number is written anew. -/
theorem OwnR.set_last {w : World} {B : Nat} {e : TypeId} {g n cap : Nat} {o : List S.R} {z : S.R} (y : Int) (h : OwnR w B e (.slice (some ⟨g, 0, none⟩) n cap) (o ++ [z])) :
    OwnR (w.setCell ⟨g, o.length * 2 + 1, none⟩ (.int .i32 y)) B e (.slice (some ⟨g, 0, none⟩) n cap) (o ++ [(z.1, y)]) := by
  obtain ⟨h1, h2 | ⟨g', cap', cur, e', h3, hg, h4, h5, h6, h7⟩⟩ := h
  · cases h2.1
  · cases e'
    have hlen : (o ++ [z]).length = o.length + 1 := by simp
    have hlen2 : (o ++ [(z.1, y)]).length = o.length + 1 := by simp
    refine ⟨by rw [cR_length], .inr ⟨g, cap, cur.setIfInBounds (o.length * 2 + 1) (.int .i32 y), by rw [hlen, hlen2], h3, ?_, by rw [hlen2, ← hlen]; exact h4, h5, by simpa using h6, ?_⟩⟩
    · rw [Sort.setCell_eq]
      unfold Sort.mapBlock
      rw [Array.getElem?_modify, if_pos rfl, hg]
      rfl
    · rw [Array.toList_setIfInBounds, List.take_set, hlen2, ← hlen, h7, cR_set]
theorem OwnR.at_last {w : World} {B : Nat} {e : TypeId} {g n cap : Nat} {o : List S.R} {z : S.R} (h : OwnR w B e (.slice (some ⟨g, 0, none⟩) n cap) (o ++ [z])) :
    n = o.length + 1 ∧ B ≤ g ∧ w.cell? ⟨g, o.length * 2, none⟩ = some (.int .i32 z.1) ∧ w.cell? ⟨g, o.length * 2 + 1, none⟩ = some (.int .i32 z.2) ∧ w.frozen? ⟨g, o.length * 2 + 1, none⟩ = false := by
  have hb := h.block g rfl
  obtain ⟨ao, c, e', _, _, hr⟩ := h.rd
  obtain ⟨_, h2 | ⟨g', cap', cur, e2, h3, hg, _⟩⟩ := h
  · cases h2.1
  · cases e2
    obtain ⟨b, off, e3, c1, c2⟩ := hr o.length (by simp)
    rw [e3] at e'
    simp only [Value.slice.injEq, Option.some.injEq, Addr.mk.injEq] at e'
    obtain ⟨⟨rfl, rfl, _⟩, hn, _⟩ := e'
    refine ⟨by simp, hb, ?_, ?_, by simp [World.frozen?, hg]⟩
    · simpa using c1
    · simpa using c2
end Go.Proofs.Ytbkcbclloemajaa
