/- RegexNames: its walk. -/
import Derived.Test.YteaaijhppmkfeaaGreatDoorNml
import Derived.Test.YteaaijhppmkfeaaGreatDoorNmp
import Derived.Test.YteaaijhppmkfeaaGreatDoorKwn
import Derived.Test.YteaaijhppmkfeaaGreatDoorRcl
namespace Go.Proofs.YteaaijhppmkfeaaGreatDoor
open Go.RowKit Go.Shelf
open E (T)
attribute [local go_sem] Oper.semAt_some
namespace E
def one1 (c : Nat) : List UInt8 := [UInt8.ofNat (97 + c)]
/-- The letters among these, each once, in order. -/
def lts (q : Nat → Bool) : List (List UInt8) := ((List.range 26).filter q).map one1
theorem one_le (a b : Nat) (ha : a < 26) (hb : b < 26) : (one1 a ≤ one1 b) ↔ a ≤ b := by
  have : ∀ a : Fin 26, ∀ b : Fin 26, (one1 a.1 ≤ one1 b.1) ↔ a.1 ≤ b.1 := by decide
  exact this ⟨a, ha⟩ ⟨b, hb⟩
theorem one_inj (a b : Nat) (ha : a < 26) (hb : b < 26) (h : one1 a = one1 b) : a = b := by
  have h1 := (one_le a b ha hb).1 (by rw [h]; exact List.le_refl _)
  have h2 := (one_le b a hb ha).1 (by rw [h]; exact List.le_refl _)
  omega
theorem fil_snoc (q : Nat → Bool) (e : Nat) (hq : ∀ c, q c = true → c < e) : ∀ N, e < N → (List.range N).filter (fun c => q c || c == e) = (List.range N).filter q ++ [e]
  | 0, h => by omega
  | N + 1, h => by
    rw [List.range_succ, List.filter_append, List.filter_append]
    have hN : q N = false := by
      cases hh : q N with
      | false => rfl
      | true => have := hq N hh; omega
    by_cases he : e = N
    · subst he
      have h1 : (List.range e).filter (fun c => q c || c == e) = (List.range e).filter q := by
        apply List.filter_congr
        intro c hc
        have := List.mem_range.1 hc
        have : (c == e) = false := by simp; omega
        rw [this, Bool.or_false]
      rw [h1]
      simp [hN]
    · rw [fil_snoc q e hq N (by omega)]
      have h2 : (N == e) = false := by simp; omega
      simp [hN, h2]
theorem comp_up (es : List Nat) (hb : ∀ c ∈ es, c < 26) (hs : es.Pairwise (· ≤ ·)) : ∀ m, m ≤ es.length → Go.Lib.compactUpTo (es.map one1).toArray m = lts (fun c => (es.take m).contains c)
  | 0, _ => by
    unfold Go.Lib.compactUpTo lts
    simp
  | m + 1, hm => by
    rw [Go.Lib.compactUpTo_succ, comp_up es hb hs m (by omega)]
    have hlt : m < es.length := hm
    have hd : (es.map one1).toArray[m]! = one1 es[m] := by simp [hlt]
    have hm26 := hb _ (List.getElem_mem hlt)
    have htk : es.take (m + 1) = es.take m ++ [es[m]] := List.take_succ_eq_append_getElem hlt
    have hcont : ∀ c, (es.take (m + 1)).contains c = ((es.take m).contains c || c == es[m]) := by
      intro c
      rw [htk, Bool.eq_iff_iff]
      simp only [List.contains_iff_mem, List.mem_append, List.mem_singleton, Bool.or_eq_true, beq_iff_eq]
    have hle : ∀ c, (es.take m).contains c = true → c ≤ es[m] := by
      intro c hc
      have hmem : c ∈ es.take m := by simpa using hc
      obtain ⟨j, hj, rfl⟩ := List.mem_iff_getElem.1 hmem
      rw [List.length_take] at hj
      rw [List.getElem_take]
      exact List.pairwise_iff_getElem.1 hs j m (by omega) hlt (by omega)
    by_cases hk : Go.Lib.keeps (es.map one1).toArray m = true
    · rw [if_pos hk, hd]
      have hne : ∀ c, (es.take m).contains c = true → c < es[m] := by
        intro c hc
        have h1 := hle c hc
        rcases Nat.lt_or_ge c es[m] with h | h
        · exact h
        · exfalso
          have hce : c = es[m] := by omega
          have hmem : c ∈ es.take m := by simpa using hc
          obtain ⟨j, hj, hjc⟩ := List.mem_iff_getElem.1 hmem
          rw [List.length_take] at hj
          rw [List.getElem_take] at hjc
          have hm0 : 0 < m := by omega
          have h2 : es[j] ≤ es[m - 1] := by
            rcases Nat.lt_or_ge j (m - 1) with hh | hh
            · exact List.pairwise_iff_getElem.1 hs j (m - 1) (by omega) (by omega) hh
            · have : j = m - 1 := by omega
              subst this
              exact Nat.le_refl _
          have h3 : es[m - 1] ≤ es[m] := List.pairwise_iff_getElem.1 hs (m - 1) m (by omega) hlt (by omega)
          have h4 : es[m - 1] = es[m] := by omega
          have h5 : (es.map one1).toArray[m - 1]! = one1 es[m - 1] := by simp [show m - 1 < es.length by omega]
          have := Go.Lib.keeps_neg (d := (es.map one1).toArray) hm0 (by rw [hd, h5, h4])
          rw [this] at hk
          cases hk
      unfold lts
      have e1 : (List.range 26).filter (fun c => (es.take (m + 1)).contains c) = (List.range 26).filter (fun c => (es.take m).contains c || c == es[m]) := List.filter_congr (fun c _ => hcont c)
      rw [e1, fil_snoc _ es[m] hne 26 hm26, List.map_append]
      rfl
    · rw [if_neg hk, List.append_nil]
      have hm0 : m ≠ 0 := by
        rintro rfl
        exact hk (Go.Lib.keeps_lt_one _ 0 (by omega))
      have h5 : (es.map one1).toArray[m - 1]! = one1 es[m - 1] := by simp [show m - 1 < es.length by omega]
      have heq : one1 es[m] = one1 es[m - 1] := by
        apply Decidable.byContradiction
        intro hne
        exact hk (Go.Lib.keeps_pos (by rw [hd, h5]; exact hne))
      have h6 := one_inj _ _ hm26 (hb _ (List.getElem_mem (show m - 1 < es.length by omega))) heq
      unfold lts
      congr 1
      apply List.filter_congr
      intro c _
      rw [hcont]
      by_cases hc : c = es[m]
      · have : (es.take m).contains c = true := by
          simp only [List.contains_iff_mem]
          rw [hc, h6]
          exact List.mem_iff_getElem.2 ⟨m - 1, by rw [List.length_take]; omega, by rw [List.getElem_take]⟩
        rw [this]
        rfl
      · have : (c == es[m]) = false := by simp [hc]
        rw [this, Bool.or_false]
theorem perm_map (es : List Nat) : ∀ (zs : List (List UInt8)), (∀ z ∈ zs, ∃ c ∈ es, z = one1 c) → ∃ fs : List Nat, zs = fs.map one1 ∧ ∀ c ∈ fs, c ∈ es
  | [], _ => ⟨[], rfl, by simp⟩
  | z :: zs, h => by
    obtain ⟨c, hc, rfl⟩ := h z (by simp)
    obtain ⟨fs, e, hf⟩ := perm_map es zs (fun x hx => h x (by simp [hx]))
    exact ⟨c :: fs, by rw [e]; rfl, by intro x hx; rcases List.mem_cons.1 hx with rfl | hx; exact hc; exact hf x hx⟩
theorem comp_sort (es : List Nat) (hb : ∀ c ∈ es, c < 26) : Go.Lib.compact ((es.map one1).mergeSort fun x y => decide (x ≤ y)) = lts (fun c => es.contains c) := by
  have hp := List.mergeSort_perm (es.map one1) (fun x y => decide (x ≤ y))
  obtain ⟨fs, hfs, hin⟩ := perm_map es ((es.map one1).mergeSort fun x y => decide (x ≤ y)) (fun z hz => by
    have := hp.subset hz
    obtain ⟨c, hc, rfl⟩ := List.mem_map.1 this
    exact ⟨c, hc, rfl⟩)
  have hfb : ∀ c ∈ fs, c < 26 := fun c hc => hb c (hin c hc)
  have hsrt : ((es.map one1).mergeSort fun x y => decide (x ≤ y)).Pairwise (fun x y => decide (x ≤ y) = true) := by
    refine List.pairwise_mergeSort ?_ ?_ _
    · intro a b c h1 h2
      simp only [decide_eq_true_eq] at h1 h2 ⊢
      exact List.le_trans h1 h2
    · intro a b
      simp only [Bool.or_eq_true, decide_eq_true_eq]
      exact List.le_total a b
  rw [hfs] at hsrt ⊢
  have hs : fs.Pairwise (· ≤ ·) := by
    rw [List.pairwise_map] at hsrt
    refine List.Pairwise.imp_of_mem ?_ hsrt
    intro a b ha hb' h
    simp only [decide_eq_true_eq] at h
    exact (one_le a b (hfb a ha) (hfb b hb')).1 h
  unfold Go.Lib.compact
  have := comp_up fs hfb hs fs.length (Nat.le_refl _)
  rw [List.take_length] at this
  rw [List.length_map, this]
  unfold lts
  congr 1
  apply List.filter_congr
  intro c hc
  have hmem : ∀ x, x ∈ fs ↔ x ∈ es := by
    intro x
    refine ⟨hin x, fun hx => ?_⟩
    have h1 : one1 x ∈ fs.map one1 := by
      rw [← hfs]
      exact hp.symm.subset (List.mem_map.2 ⟨x, hx, rfl⟩)
    obtain ⟨y, hy, e⟩ := List.mem_map.1 h1
    have := one_inj y x (hfb y hy) (hb x hx) e
    rw [← this]; exact hy
  rw [Bool.eq_iff_iff]
  simp [hmem]
end E
/-- The array of marks. -/
structure Mks (W : World) (B : Nat) (f : Nat → Bool) : Prop where
  cell : ∀ i, i < 26 → W.cell? ⟨B, i, none⟩ = some (.bool (f i))
  free : ∀ i, W.frozen? ⟨B, i, none⟩ = false
abbrev fl26 : Array Value := #[Value.bool false, Value.bool false, Value.bool false, Value.bool false, Value.bool false, Value.bool false, Value.bool false, Value.bool false, Value.bool false, Value.bool false, Value.bool false, Value.bool false, Value.bool false, Value.bool false, Value.bool false, Value.bool false, Value.bool false, Value.bool false, Value.bool false, Value.bool false, Value.bool false, Value.bool false, Value.bool false, Value.bool false, Value.bool false, Value.bool false]
theorem mks_new (w : World) : Mks (w.alloc (.cells fl26 42)) w.heap.size (fun _ => false) := by
  have h := heap_alloc_new w (.cells fl26 42)
  constructor
  · intro i hi
    unfold World.cell?
    simp only [h]
    rw [show fl26 = (List.replicate 26 (Value.bool false)).toArray by rfl]
    rw [List.getElem?_toArray, List.getElem?_replicate, if_pos hi]
    rfl
  · intro i
    unfold World.frozen?
    simp only [h]
    simp
theorem Mks.later {W W' : World} {B : Nat} {f : Nat → Bool} (h : Mks W B f) (hs : W'.heap[B]? = W.heap[B]?) : Mks W' B f :=
  ⟨fun i hi => by rw [← h.cell i hi]; simp only [World.cell?, hs], fun i => by rw [← h.free i]; simp only [World.frozen?, hs]⟩
theorem Mks.set {W : World} {B e : Nat} {f : Nat → Bool} (h : Mks W B f) (he : e < 26) : Mks (W.setCell ⟨B, e, none⟩ (.bool true)) B (fun c => f c || c == e) := by
  constructor
  · intro i hi
    by_cases hie : i = e
    · subst hie
      rw [World.cell?_setCell_same _ _ _ (h.cell i hi)]
      simp
    · rw [World.cell?_setCell_other _ _ _ _ (by intro h; cases h; exact hie rfl)]
      rw [h.cell i hi]
      have : (i == e) = false := by simp [hie]
      rw [this, Bool.or_false]
  · intro i
    have := h.free i
    unfold World.frozen? at this ⊢
    simp only [World.setCell, Array.getElem?_modify]
    cases hb : W.heap[B]? with
    | none => simp
    | some o => rw [hb] at this; cases o <;> simp_all
/-- The letters of these bytes. -/
def les (bs : List UInt8) : List Nat := bs.map fun b => b.toNat % 26
def lcs (bs : List UInt8) : List UInt8 := (les bs).map fun e => UInt8.ofNat (97 + e)
theorem cv1 (w : World) (n y : Nat) (h : y < 256) (hn : w.heap.size = n) : (convert 41 9 (.slice (some ⟨n, 0, none⟩) 1 1)).run Tryz.prog (w.alloc (.cells #[.int .u8 (y : Int)] 5)) = .ok (.string ⟨#[UInt8.ofNat y]⟩) (w.alloc (.cells #[.int .u8 (y : Int)] 5)) := by
  subst hn
  have := conv_any (w.alloc (.cells #[.int .u8 (y : Int)] 5)) (some ⟨w.heap.size, 0, none⟩) [UInt8.ofNat y] 1 (rd_new _ _ _ _ _ (by
    simp [cB]; omega))
  exact this
theorem nmT_snoc (cs : List UInt8) (c : UInt8) : E.nmT (cs ++ [c]) = E.nmT cs ++ [32, 36, c] := by simp [E.nmT]
theorem nmT_len (cs : List UInt8) : (E.nmT cs).length = 3 * cs.length := by
  induction cs with
  | nil => rfl
  | cons c cs ih => rw [E.nmT, List.flatMap_cons, List.length_append, ← E.nmT, ih]; simp; omega
theorem lcs_len (bs : List UInt8) : (lcs bs).length = bs.length := by simp [lcs, les]
theorem les_snoc (bs : List UInt8) (b : UInt8) : les (bs ++ [b]) = les bs ++ [b.toNat % 26] := by simp [les]
theorem lcs_snoc (bs : List UInt8) (b : UInt8) : lcs (bs ++ [b]) = lcs bs ++ [UInt8.ofNat (97 + b.toNat % 26)] := by simp [lcs, les]
theorem bts_app' (a b : ByteArray) : bts (a ++ b) = bts a ++ bts b := by
  unfold bts
  simp
theorem parse_lcs (bs : List UInt8) (h0 : ¬ bs.length = 0) (h30 : ¬ 30 < bs.length) : ∃ t, E.parse (E.nmT (lcs bs)) = .ok t ∧ E.nmL t = E.lts (fun c => (les bs).contains c) ∧ (E.pre t t).length ≤ 1000000 ∧ (∀ p ∈ E.pre t t, p.1.name.length ≤ 100000) ∧ E.cnt (E.pre t t) = 0 := by
  obtain ⟨c, cs, hcs⟩ : ∃ c cs, lcs bs = c :: cs := by
    cases h : lcs bs with
    | nil => have := lcs_len bs; rw [h] at this; simp at this; omega
    | cons c cs => exact ⟨c, cs, rfl⟩
  have hb : ∀ e ∈ les bs, e < 26 := by
    intro e he
    obtain ⟨b, _, rfl⟩ := List.mem_map.1 he
    exact Nat.mod_lt _ (by decide)
  have hl : ∀ x ∈ c :: cs, X.isL x = true := by
    intro x hx
    rw [← hcs] at hx
    obtain ⟨e, he, rfl⟩ := List.mem_map.1 hx
    have := hb e he
    have : ∀ e : Fin 26, X.isL (UInt8.ofNat (97 + e.val)) = true := by decide
    exact this ⟨e, hb e he⟩
  obtain ⟨t, h1, h2, h3⟩ := E.parse_names c cs hl
  rw [← hcs] at h1 h2
  refine ⟨t, h1, ?_, ?_, fun p hp => Nat.le_trans (h3.1 p hp).2 (by decide), ?_⟩
  · unfold E.nmL
    have : E.vnk (E.pre t t) = (les bs).map E.one1 := by
      have : E.vnk (E.pre t t) = E.vn t := rfl
      rw [this, h2, lcs, List.map_map]
      rfl
    rw [this]
    exact E.comp_sort (les bs) hb
  · have := h3.2
    rw [h2, List.length_map, lcs_len] at this
    omega
  · unfold E.cnt
    rw [List.countP_eq_zero]
    intro p hp
    rcases (h3.1 p hp).1 with h | h <;> simp [h]
namespace Rn
section
variable {w : World} {ρ : Operand → Value} {o : Oper}
theorem geq {t t' : TypeId} {x y : Operand} {m n : Int} {b : Bool} (hop : o.op = .binOp .geq t x y t') (hx : ρ x = .int .i64 m) (hy : ρ y = .int .i64 n) (h : decide (n ≤ m) = b) : (execOp ρ o).run Tryz.prog w = .ok (.value (.bool b)) w := by
  obtain ⟨dst, op, type, pos, after, guard⟩ := o
  simp only at hop
  subst hop
  subst h
  simp [execOp, hx, hy, eqGuard, binOp, Op.intCmp]
theorem neS {t t' : TypeId} {x y : Operand} {s : ByteArray} (hop : o.op = .binOp .neq t x y t') (hx : ρ x = .string s) (hy : ρ y = .string s) : (execOp ρ o).run Tryz.prog w = .ok (.value (.bool false)) w := by
  obtain ⟨dst, op, type, pos, after, guard⟩ := o
  simp only at hop
  subst hop
  simp [execOp, hx, hy, eqGuard, binOp, Op.stringOp, Sem.run_pure]
theorem cv8 {x : Operand} {c : Nat} (hc : c < 26) (hop : o.op = .convert 3 5 x) (hx : ρ x = .int .i64 (c : Int)) : (execOp ρ o).run Tryz.prog w = .ok (.value (.int .u8 (c : Int))) w := by
  have hw : IntKind.wrap .u8 (c : Int) = (c : Int) := (show ∀ c : Fin 26, IntKind.wrap .u8 (c.val : Int) = (c.val : Int) by decide) ⟨c, hc⟩
  obtain ⟨dst, op, type, pos, after, guard⟩ := o
  simp only at hop
  subst hop
  simp [execOp, hx, go_sem, hw]
theorem ad8 {x : Operand} {c y : Nat} (hc : c < 26) (hy : 97 + c = y) (hop : o.op = .binOp .add 5 (.const (.int .u8 97)) x 5) (h1 : ρ (.const (.int .u8 97)) = .int .u8 97) (hx : ρ x = .int .u8 (c : Int)) : (execOp ρ o).run Tryz.prog w = .ok (.value (.int .u8 (y : Int))) w := by
  subst hy
  have hw : IntKind.wrap .u8 (97 + (c : Int)) = ((97 + c : Nat) : Int) := (show ∀ c : Fin 26, IntKind.wrap .u8 (97 + (c.val : Int)) = ((97 + c.val : Nat) : Int) by decide) ⟨c, hc⟩
  obtain ⟨dst, op, type, pos, after, guard⟩ := o
  simp only at hop
  subst hop
  rw [show (((97 + c : Nat) : Int)) = IntKind.wrap .u8 (97 + (c : Int)) from hw.symm]
  simp [execOp, hx, h1, go_sem, eqGuard]
end
end Rn
/-- How many of the first letters there are. -/
def cq (q : Nat → Bool) (c : Nat) : Nat := ((List.range c).filter q).length
theorem cq_succ (q : Nat → Bool) (c : Nat) : cq q (c + 1) = cq q c + if q c = true then 1 else 0 := by
  unfold cq
  rw [List.range_succ, List.filter_append, List.length_append]
  by_cases h : q c = true <;> simp [h]
theorem lts_len (q : Nat → Bool) : (E.lts q).length = cq q 26 := by simp [E.lts, cq]
theorem lts_get (q : Nat → Bool) (c : Nat) (hc : c < 26) (h : q c = true) : (E.lts q)[cq q c]? = some (E.one1 c) := by
  have e : List.range 26 = List.range c ++ c :: ((List.range (25 - c)).map fun x => c + (x + 1)) := by
    have : List.range 26 = List.range (c + (25 - c + 1)) := by congr 1; omega
    rw [this, List.range_add, List.range_succ_eq_map, List.map_cons, List.map_map]
    rfl
  unfold E.lts cq
  rw [e, List.filter_append, List.filter_cons, if_pos h, List.map_append, List.map_cons, List.getElem?_append_right (by simp)]
  simp
end Go.Proofs.YteaaijhppmkfeaaGreatDoor
