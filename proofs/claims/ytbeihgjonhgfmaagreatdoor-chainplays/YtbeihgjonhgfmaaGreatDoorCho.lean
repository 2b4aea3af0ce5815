/- Rows of steps that came in; sets of a forest, whatever the texts. -/
import Derived.Test.YtbeihgjonhgfmaaGreatDoorChl
import Derived.Test.YtbeihgjonhgfmaaGreatDoorChn
namespace Go.Proofs.YtbeihgjonhgfmaaGreatDoor
open Go.RowKit Go.Shelf Go.Maps
attribute [local go_sem] Oper.semAt_some
namespace C
abbrev Stp := Bool × Tx × Tx
/-- A slice of steps. -/
def RdS (w : World) (b off : Nat) (l : List Stp) : Prop := b < w.heap.size ∧ ∀ i (h : i < l.length), w.cell? ⟨b, off + i * 3, none⟩ = some (.bool l[i].1) ∧ w.cell? ⟨b, off + i * 3 + 1, none⟩ = some (tx l[i].2.1) ∧ w.cell? ⟨b, off + i * 3 + 2, none⟩ = some (tx l[i].2.2) ∧ l[i].2.1.length ≤ 9223372036854775807 ∧ l[i].2.2.length ≤ 9223372036854775807
theorem RdS.later {w W : World} {b off : Nat} {l : List Stp} (h : RdS w b off l) (hb : Below w.heap.size w W) : RdS W b off l :=
  ⟨Nat.lt_of_lt_of_le h.1 hb.size, fun i hi => by
    obtain ⟨h1, h2, h3, h4⟩ := h.2 i hi
    exact ⟨cell_later hb h1, cell_later hb h2, cell_later hb h3, h4⟩⟩
theorem RdS.below {w W : World} {b off n : Nat} {l : List Stp} (h : RdS w b off l) (hb : Below n w W) (hn : b < n) : RdS W b off l := by
  have hk : ∀ d, W.cell? ⟨b, d, none⟩ = w.cell? ⟨b, d, none⟩ := fun d => by simp [World.cell?, hb.block b hn]
  exact ⟨Nat.lt_of_lt_of_le h.1 hb.size, fun i hi => by rw [hk, hk, hk]; exact h.2 i hi⟩
/-- A set, whatever the texts. -/
def setM (L : Row) (k p : Tx) : Row := if G.isT k = true ∧ (p = [] ∨ G.isT p = true) then put L k p else L
theorem setM_len (L : Row) (k p : Tx) : (setM L k p).length ≤ L.length + 1 := by
  unfold setM
  split
  · exact len_put L k p
  · omega
theorem setM_srt {L : Row} (h : Srt L) (k p : Tx) : Srt (setM L k p) := by
  unfold setM
  split
  · exact srt_put h k p
  · exact h
theorem setB_any {n0 : Nat} {w : World} {a : Nat} {L : Row} (h : FB n0 w a L) (hn0 : n0 ≤ w.heap.size) (k p : Tx) (hkl : k.length ≤ 9223372036854775807) (hpl : p.length ≤ 9223372036854775807) (hn : L.length < 1000000) (hA : AF w) :
    Calls Tryz.prog 11 #[.pointer (some ⟨a, 0, none⟩), tx k, tx p] w fun e W' => (∃ c : Int, e = .returned (.int .i64 c)) ∧ FB n0 W' a (setM L k p) ∧ Below n0 w W' ∧ Kp w W' := by
  by_cases hh : G.isT k = true ∧ (p = [] ∨ G.isT p = true)
  · refine (setB_ok h hn0 k p hh.1 hh.2 hn hA).mono ?_
    rintro e W' ⟨rfl, h1, h2⟩
    exact ⟨⟨_, rfl⟩, by unfold setM; rw [if_pos hh]; exact h1, h2⟩
  · refine (setB_no h hn0 k p hkl hpl hh hn hA).mono ?_
    rintro e W' ⟨rfl, h1, h2⟩
    exact ⟨⟨_, rfl⟩, by unfold setM; rw [if_neg hh]; exact h1, h2⟩
theorem hasFB {n0 : Nat} {w : World} {a : Nat} {L : Row} (h : FB n0 w a L) (x : Tx) (hx : x.length ≤ 9223372036854775807) :
    Calls Tryz.prog 17 #[.pointer (some ⟨a, 0, none⟩), tx x] w fun e W' => e = .returned (.bool (has L x)) ∧ Below w.heap.size w W' := by
  obtain ⟨mb, h1, _⟩ := h
  exact has_any h1 x hx
theorem nextFB {n0 : Nat} {w : World} {a : Nat} {L : Row} (h : FB n0 w a L) (x : Tx) (hx : x.length ≤ 9223372036854775807) (hA : AF w) :
    Calls Tryz.prog 22 #[.pointer (some ⟨a, 0, none⟩), tx x] w fun e W' => AnsN L x e ∧ Below w.heap.size w W' := by
  obtain ⟨mb, h1, _⟩ := h
  exact nextF_any h1 x hx hA
theorem copyFB {n0 : Nat} {w : World} {a : Nat} {L : Row} (h : FB n0 w a L) :
    Calls Tryz.prog 15 #[.pointer (some ⟨a, 0, none⟩)] w fun e W' => ∃ c, e = .returned (.pointer (some ⟨c, 0, none⟩)) ∧ FB w.heap.size W' c L ∧ Below w.heap.size w W' := by
  obtain ⟨mb, h1, _⟩ := h
  refine (copy_any h1).mono ?_
  rintro e W' ⟨c, mc, he, hf, h2, h3, hb⟩
  exact ⟨c, he, ⟨mc, hf, h2, h3⟩, hb⟩
theorem ks_len40 {n0 : Nat} {w : World} {a : Nat} {L : Row} (h : FB n0 w a L) : ∀ t ∈ ks L, t.length ≤ 40 := by
  obtain ⟨mb, h1, _⟩ := h
  exact ks_small h1
theorem del_has {L : Row} (h : Srt L) (t : Tx) : has (del L t) t = false := by
  rw [← get_has, get_del h, if_pos rfl]; rfl
theorem del_len {L : Row} (h : Srt L) {t : Tx} (ht : t ∈ ks L) : L.length = (del L t).length + 1 := by
  have h1 : (ks L).Perm (t :: ks (del L t)) := by
    refine (List.perm_ext_iff_of_nodup (ks_nodup h) (List.nodup_cons.2 ⟨fun hm => ?_, ks_nodup (srt_del h t)⟩)).2 fun x => ?_
    · have := has_ks.2 hm; rw [del_has h] at this; cases this
    · rw [List.mem_cons, ← has_ks, ← has_ks, ← get_has, ← get_has, get_del h]
      by_cases e : x = t
      · subst e
        have := has_ks.2 ht
        rw [← get_has] at this
        simp [this]
      · simp [e]
  have := h1.length_eq
  unfold ks at this
  simpa using this
theorem ixR {w : World} {ρ : Operand → Value} {o : Oper} {t : TypeId} {x y : Operand} {b off len cap k s : Nat} {q : IntKind} (hop : o.op = .indexAddr t x y) (hx : ρ x = .slice (some ⟨b, off, none⟩) len cap) (hy : ρ y = .int q (k : Int)) (hk : k < len)
    (ht : Tryz.prog.underlying t = some (.slice (Tryz.prog.elem t))) (hs : (sizeOf (Tryz.prog.elem t)).run Tryz.prog w = .ok s w) : (execOp ρ o).run Tryz.prog w = .ok (.value (.pointer (some ⟨b, off + k * s, none⟩))) w := by
  obtain ⟨dst, op, type, pos, after, guard⟩ := o
  simp only at hop
  subst hop
  have h1 : 0 ≤ (k : Int) ∧ (k : Int) < (len : Int) := by omega
  simp only [execOp, hx, hy, Sem.run_bind]
  rw [run_indexAt_slice w t ⟨b, off, none⟩ len cap q (k : Int) ht, if_pos h1, hs]
  simp only [Result.andThen, Int.toNat_natCast, Addr.add_mid, Sem.run_pure]
theorem faS {w : World} {ρ : Operand → Value} {o : Oper} {x : Operand} {b off i : Nat} (hop : o.op = .fieldAddr 29 x i) (hx : ρ x = .pointer (some ⟨b, off, none⟩)) (hi : i = 0 ∨ i = 1 ∨ i = 2) : (execOp ρ o).run Tryz.prog w = .ok (.value (.pointer (some ⟨b, off + i, none⟩))) w := by
  obtain ⟨dst, op, type, pos, after, guard⟩ := o
  simp only at hop
  subst hop
  rcases hi with rfl | rfl | rfl <;> simp [execOp, hx, go_sem]
theorem elemSize22 (w : World) : (sizeOf (Tryz.prog.elem 22)).run Tryz.prog w = .ok 3 w := by kernel_rfl
theorem under22 : Tryz.prog.underlying 22 = some (.slice (Tryz.prog.elem 22)) := by kernel_rfl
/-- The row of all sets. -/
def rowS (l : List Stp) : Row := l.foldl (fun L s => setM L s.2.1 s.2.2) []
theorem rowS_succ {l : List Stp} {i : Nat} (h : i < l.length) : rowS (l.take (i + 1)) = setM (rowS (l.take i)) l[i].2.1 l[i].2.2 := by
  unfold rowS
  rw [List.take_succ_eq_append_getElem h, List.foldl_append]
  rfl
theorem rowS_len : ∀ (l : List Stp) (i : Nat), (rowS (l.take i)).length ≤ i
  | l, 0 => by simp [rowS]
  | l, i + 1 => by
    by_cases h : i < l.length
    · rw [rowS_succ h]
      have := setM_len (rowS (l.take i)) l[i].2.1 l[i].2.2
      have := rowS_len l i
      omega
    · have e : l.take (i + 1) = l.take i := by rw [List.take_of_length_le (by omega), List.take_of_length_le (by omega)]
      rw [e]
      have := rowS_len l i
      omega
end C
end Go.Proofs.YtbeihgjonhgfmaaGreatDoor
