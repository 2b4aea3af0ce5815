/- Slices that read as a list of values; rows that the call itself made; what cuts, appends and conversions make of them. -/
import Derived.Test.YtidpalighpdlfaaGreatDoorBas
import Derived.WalkKit
import Derived.WalkSpells
import Derived.WalkLawsBesides
import Derived.Laws.AppendOwnNone
import Derived.Laws.BytesArg
import Derived.Lib.SlBytesConst
namespace Go.Proofs.YtidpalighpdlfaaGreatDoor
open Go.RowKit


def cB (bs : List UInt8) : List Value := bs.map fun c => Value.int .u8 (c.toNat : Int)
def cI (xs : List Int) : List Value := xs.map fun x => Value.int .i32 x
def cN (xs : List Int) : List Value := xs.map fun x => Value.int .i64 x
theorem cB_length (bs : List UInt8) : (cB bs).length = bs.length := by simp [cB]
theorem cI_length (bs : List Int) : (cI bs).length = bs.length := by simp [cI]
theorem cN_length (bs : List Int) : (cN bs).length = bs.length := by simp [cN]
theorem cB_append (xs ys : List UInt8) : cB (xs ++ ys) = cB xs ++ cB ys := by simp [cB]
theorem cI_append (xs ys : List Int) : cI (xs ++ ys) = cI xs ++ cI ys := by simp [cI]
theorem cN_append (xs ys : List Int) : cN (xs ++ ys) = cN xs ++ cN ys := by simp [cN]
theorem cB_one (bs : List UInt8) : ∀ u ∈ cB bs, u.oneCell' = true := by
  intro u hu
  obtain ⟨_, _, rfl⟩ := List.mem_map.1 hu
  rfl
theorem cI_one (bs : List Int) : ∀ u ∈ cI bs, u.oneCell' = true := by
  intro u hu
  obtain ⟨_, _, rfl⟩ := List.mem_map.1 hu
  rfl
theorem cN_one (bs : List Int) : ∀ u ∈ cN bs, u.oneCell' = true := by
  intro u hu
  obtain ⟨_, _, rfl⟩ := List.mem_map.1 hu
  rfl

/-- The slice reads as these values. -/
def Rd (w : World) (ao : Option Addr) (vs : List Value) : Prop :=
  ∀ i (h : i < vs.length), ∃ b off, ao = some ⟨b, off, none⟩ ∧ w.cell? ⟨b, off + i, none⟩ = some vs[i]

theorem Rd.byte {w : World} {ao : Option Addr} {bs : List UInt8} (h : Rd w ao (cB bs)) (i : Nat) (hi : i < bs.length) : ∃ b off, ao = some ⟨b, off, none⟩ ∧ w.cell? ⟨b, off + i, none⟩ = some (.int .u8 (bs[i].toNat : Int)) := by
  obtain ⟨b, off, e, hc⟩ := h i (by rw [cB_length]; exact hi)
  exact ⟨b, off, e, by rw [hc]; simp [cB]⟩
theorem Rd.rune {w : World} {ao : Option Addr} {bs : List Int} (h : Rd w ao (cI bs)) (i : Nat) (hi : i < bs.length) : ∃ b off, ao = some ⟨b, off, none⟩ ∧ w.cell? ⟨b, off + i, none⟩ = some (.int .i32 bs[i]) := by
  obtain ⟨b, off, e, hc⟩ := h i (by rw [cI_length]; exact hi)
  exact ⟨b, off, e, by rw [hc]; simp [cI]⟩
theorem Rd.num {w : World} {ao : Option Addr} {bs : List Int} (h : Rd w ao (cN bs)) (i : Nat) (hi : i < bs.length) : ∃ b off, ao = some ⟨b, off, none⟩ ∧ w.cell? ⟨b, off + i, none⟩ = some (.int .i64 bs[i]) := by
  obtain ⟨b, off, e, hc⟩ := h i (by rw [cN_length]; exact hi)
  exact ⟨b, off, e, by rw [hc]; simp [cN]⟩

theorem adAdd (b off j : Nat) : (⟨b, off, none⟩ : Addr).add j = ⟨b, off + j, none⟩ := by
  unfold Addr.add
  split
  · simp_all
  · rfl
theorem rd_nil (w : World) (ao : Option Addr) : Rd w ao [] := fun i h => by simp at h
theorem Rd.later {w wx : World} {ao : Option Addr} {vs : List Value} (h : Rd w ao vs) (hb : Below w.heap.size w wx) : Rd wx ao vs := fun i hi =>
  let ⟨b, off, e, hc⟩ := h i hi
  ⟨b, off, e, cell_later hb hc⟩
theorem Rd.take {w : World} {ao : Option Addr} {vs : List Value} (h : Rd w ao vs) (k : Nat) : Rd w ao (vs.take k) := by
  intro i hi
  have hi' : i < vs.length := by rw [List.length_take] at hi; omega
  obtain ⟨b, off, e, hc⟩ := h i hi'
  exact ⟨b, off, e, by rw [List.getElem_take]; exact hc⟩
theorem Rd.drop {w : World} {ao : Option Addr} {vs : List Value} (h : Rd w ao vs) (k : Nat) : Rd w (ao.map (·.add k)) (vs.drop k) := by
  intro i hi
  rw [List.length_drop] at hi
  obtain ⟨b, off, rfl, hc⟩ := h (k + i) (by omega)
  exact ⟨b, off + k, by rw [Option.map_some, adAdd], by rw [List.getElem_drop, Nat.add_assoc]; exact hc⟩
theorem Rd.cell {w : World} {ao : Option Addr} {vs : List Value} (h : Rd w ao vs) (hp : 0 < vs.length) : ∃ ad, ao = some ad ∧ ∀ j v, vs[j]? = some v → w.cell? (ad.add j) = some v := by
  obtain ⟨b, off, rfl, _⟩ := h 0 hp
  refine ⟨_, rfl, fun j v hv => ?_⟩
  obtain ⟨hj, rfl⟩ := List.getElem?_eq_some_iff.1 hv
  obtain ⟨b', off', e, hc⟩ := h j hj
  simp only [Option.some.injEq, Addr.mk.injEq] at e
  obtain ⟨rfl, rfl, _⟩ := e
  rw [adAdd]
  exact hc
theorem rd_new (w : World) (vs : List Value) (t : TypeId) (cs : Array Value) (fz : Nat × Nat) (hcs : cs = vs.toArray) : Rd (w.alloc (.cells cs t fz)) (some ⟨w.heap.size, 0, none⟩) vs := by
  subst hcs
  intro i hi
  refine ⟨w.heap.size, 0, rfl, ?_⟩
  unfold World.cell?
  rw [heap_alloc_new]
  simp [hi]

/-- The value v owns a row that the call itself made, from block B on. -/
def Own (w : World) (B : Nat) (e : TypeId) (v : Value) (vs : List Value) : Prop := w.ownsRow B e 1 v vs.length vs

theorem own_nil (w : World) (B : Nat) (e : TypeId) : Own w B e (.slice none 0 0) [] := World.ownsRow_nil w _ _ _
theorem Own.block {w : World} {B : Nat} {e : TypeId} {v : Value} {vs : List Value} (h : Own w B e v vs) : ∀ k, v.ownBlock = some k → B ≤ k := by
  intro g hg
  obtain ⟨_, ⟨rfl, _⟩ | ⟨g', cap', cur', rfl, hg', _⟩⟩ := h
  · simp [Value.ownBlock] at hg
  · simp [Value.ownBlock] at hg; omega
theorem Own.rd {w : World} {B : Nat} {e : TypeId} {v : Value} {vs : List Value} (h : Own w B e v vs) : ∃ ao cap, v = .slice ao vs.length cap ∧ vs.length ≤ cap ∧ (ao = none → cap = 0) ∧ Rd w ao vs := by
  obtain ⟨_, h | ⟨g, cap, cur, rfl, _, hg, hle, _, hsz, hxs⟩⟩ := h
  · obtain ⟨rfl, hn⟩ := h
    have : vs = [] := List.eq_nil_of_length_eq_zero hn
    subst this
    exact ⟨none, 0, rfl, Nat.le_refl _, fun _ => rfl, fun i h => by simp at h⟩
  · refine ⟨_, cap, rfl, hle, fun h => (by cases h), fun i hi => ⟨g, 0, rfl, ?_⟩⟩
    have e : cur.toList[i]? = some vs[i] := by
      have h1 : (cur.toList.take (vs.length * 1))[i]? = vs[i]? := by rw [hxs]
      rw [List.getElem?_take, if_pos (by omega)] at h1
      rw [h1]
      simp [hi]
    simp only [World.cell?, hg, Nat.zero_add]
    simpa using e

/- The three kinds of rows: bytes, code points, places. -/
theorem info5 : (Tryz.prog.info? 5).map (fun i => (i.zero, i.size, i.bytes)) = some (some (.int .u8 0), 1, 1) := by kernel_rfl
theorem info21 : (Tryz.prog.info? 21).map (fun i => (i.zero, i.size, i.bytes)) = some (some (.int .i32 0), 1, 4) := by kernel_rfl
theorem info3 : (Tryz.prog.info? 3).map (fun i => (i.zero, i.size, i.bytes)) = some (some (.int .i64 0), 1, 8) := by kernel_rfl

theorem run_app {T e : TypeId} {z : Value} {k : Nat} (hT : Tryz.prog.underlying T = some (.slice e)) (hI : (Tryz.prog.info? e).map (fun i => (i.zero, i.size, i.bytes)) = some (some z, 1, k)) (hz : z.cells.size = 1) (hk : k ≤ 8)
    (w : World) (B : Nat) (v : Value) (vs : List Value) (ao : Option Addr) (xs : List Value) (cap : Nat) (ty : TypeId) (ho : Own w B e v vs) (hB : B ≤ w.heap.size) (hr : Rd w ao xs) (h1 : ∀ u ∈ xs, u.oneCell' = true) (hn : ao = none → cap = 0)
    (hlen : vs.length + xs.length ≤ 10000000) :
    ∃ v' w', (Builtin.append_ #[T, T] ty #[v, .slice ao xs.length cap]).run Tryz.prog w = .ok v' w' ∧ Own w' B e v' (vs ++ xs) ∧ Below B w w' ∧ w.grownBy w' v.ownBlock := by
  obtain ⟨i0, hi, hz0, hz1, hz2⟩ := info_parts hI
  cases ao with
  | none =>
    have hx : xs = [] := by
      cases xs with
      | nil => rfl
      | cons x l =>
        obtain ⟨_, _, e, _⟩ := hr 0 (by simp)
        cases e
    subst hx
    rw [hn rfl, List.append_nil]
    exact ⟨v, w, run_append_owned_none (P := Tryz.prog) (w := w) B T ty e i0 1 hT hi v vs.length vs ho, ho, Below.refl _ _, ⟨rfl, rfl, rfl, Nat.le_refl _, fun _ _ _ => rfl⟩⟩
  | some ad =>
    have hnews : ∀ j u, xs[j]? = some u → w.cell? (ad.add j) = some u := by
      intro j u hu
      obtain ⟨hj, _⟩ := List.getElem?_eq_some_iff.1 hu
      obtain ⟨ad', e, h⟩ := hr.cell (by omega)
      cases e
      exact h j u hu
    obtain ⟨v', w', hrun, h1, h2, _⟩ := run_append_own (P := Tryz.prog) w B T ty e i0 z 1 k hT hi hz0 hz1 hz2 hz (by decide) v vs.length vs ho ad xs.length cap xs
      (by rw [Nat.mul_one]) hnews h1 (by unfold maxLen; omega) (by have : (vs.length + xs.length) * k ≤ 10000000 * 8 := Nat.mul_le_mul hlen hk; omega) hB
    refine ⟨v', w', hrun, ?_, (Below.refl _ _).grown h2 hB ho.block, h2⟩
    unfold Own
    rw [List.length_append]
    exact h1

theorem app8 (w : World) (B : Nat) (v : Value) (vs : List Value) (ao : Option Addr) (xs : List UInt8) (cap : Nat) (ty : TypeId) (ho : Own w B 5 v vs) (hB : B ≤ w.heap.size) (hr : Rd w ao (cB xs)) (hn : ao = none → cap = 0) (hlen : vs.length + xs.length ≤ 10000000) :
    ∃ v' w', (Builtin.append_ #[40, 40] ty #[v, .slice ao xs.length cap]).run Tryz.prog w = .ok v' w' ∧ Own w' B 5 v' (vs ++ cB xs) ∧ Below B w w' := by
  obtain ⟨v', w', h1, h2, h3, _⟩ := run_app Tryz.underlying40 info5 rfl (by decide) w B v vs ao (cB xs) cap ty ho hB hr (cB_one xs) hn (by rw [cB_length]; exact hlen)
  rw [cB_length] at h1
  exact ⟨v', w', h1, h2, h3⟩
theorem app32 (w : World) (B : Nat) (v : Value) (vs : List Value) (ao : Option Addr) (xs : List Int) (cap : Nat) (ty : TypeId) (ho : Own w B 21 v vs) (hB : B ≤ w.heap.size) (hr : Rd w ao (cI xs)) (hn : ao = none → cap = 0) (hlen : vs.length + xs.length ≤ 10000000) :
    ∃ v' w', (Builtin.append_ #[60, 60] ty #[v, .slice ao xs.length cap]).run Tryz.prog w = .ok v' w' ∧ Own w' B 21 v' (vs ++ cI xs) ∧ Below B w w' := by
  obtain ⟨v', w', h1, h2, h3, _⟩ := run_app Tryz.underlying60 info21 rfl (by decide) w B v vs ao (cI xs) cap ty ho hB hr (cI_one xs) hn (by rw [cI_length]; exact hlen)
  rw [cI_length] at h1
  exact ⟨v', w', h1, h2, h3⟩

theorem elemSize40 (w : World) : (sizeOf (Tryz.prog.elem 40)).run Tryz.prog w = .ok 1 w := by kernel_rfl
theorem elemSize60 (w : World) : (sizeOf (Tryz.prog.elem 60)).run Tryz.prog w = .ok 1 w := by kernel_rfl

/-- b[:k]. -/
theorem cut_to {T : TypeId} (hT : Tryz.prog.underlying T = some (.slice (Tryz.prog.elem T))) (hS : ∀ w : World, (sizeOf (Tryz.prog.elem T)).run Tryz.prog w = .ok 1 w) (w : World) (ao : Option Addr) (vs : List Value) (n cap k : Nat) (hk : k ≤ n) (hcap : n ≤ cap) (hn : ao = none → cap = 0) (h : Rd w ao vs) :
    ∃ (a1 : Option Addr) (c1 : Nat), Rd w a1 (vs.take k) ∧ k ≤ c1 ∧ (a1 = none → c1 = 0) ∧
      ∀ wx : World, (Instr.slice T (.slice ao n cap) none (some (.int .i64 (k : Int))) none).run Tryz.prog wx = .ok (.slice a1 k c1) wx := by
  refine ⟨if cap = 0 then ao else ao.map (·.add 0), cap, ?_, by omega, ?_, fun wx => ?_⟩
  · split
    · exact h.take k
    · have := (h.drop 0).take k
      rwa [List.drop_zero] at this
  · split
    · intro _; assumption
    · intro e
      cases ao with
      | none => exact hn rfl
      | some _ => cases e
  · rw [run_slice_h (P := Tryz.prog) (w := wx) T ao n cap hT .i64 (k : Int) (by omega) (by omega), hS]
    simp only [Result.andThen, sliced, Int.toNat_natCast, Nat.sub_zero, Nat.zero_mul]

/-- b[k:]. -/
theorem cut_from {T : TypeId} (hT : Tryz.prog.underlying T = some (.slice (Tryz.prog.elem T))) (hS : ∀ w : World, (sizeOf (Tryz.prog.elem T)).run Tryz.prog w = .ok 1 w) (w : World) (ao : Option Addr) (vs : List Value) (n cap k : Nat) (hv : vs.length = n) (hk : k ≤ n) (hcap : n ≤ cap) (hn : ao = none → cap = 0) (h : Rd w ao vs) :
    ∃ (a1 : Option Addr) (c1 : Nat), Rd w a1 (vs.drop k) ∧ n - k ≤ c1 ∧ (a1 = none → c1 = 0) ∧
      ∀ wx : World, (Instr.slice T (.slice ao n cap) (some (.int .i64 (k : Int))) none none).run Tryz.prog wx = .ok (.slice a1 (n - k) c1) wx := by
  refine ⟨if cap = k then ao else ao.map (·.add (k * 1)), cap - k, ?_, by omega, ?_, fun wx => ?_⟩
  · split
    · intro i hi
      rw [List.length_drop] at hi
      omega
    · rw [Nat.mul_one]; exact h.drop k
  · split
    · intro _; omega
    · intro e
      cases ao with
      | none => have := hn rfl; omega
      | some _ => cases e
  · rw [run_slice_l (P := Tryz.prog) (w := wx) T ao n cap hT .i64 (k : Int) (by omega) (by omega), hS]
    simp only [Result.andThen, sliced, Int.toNat_natCast]

/-- string(b). -/
theorem conv_any (w : World) (ao : Option Addr) (bs : List UInt8) (cap : Nat) (h : Rd w ao (cB bs)) :
    (convert 40 9 (.slice ao bs.length cap)).run Tryz.prog w = .ok (.string ⟨bs.toArray⟩) w := by
  by_cases hb : bs.length = 0
  · obtain rfl : bs = [] := List.eq_nil_of_length_eq_zero hb
    cases ao with
    | none => exact run_convert_bytes_nil w 40 5 Tryz.underlying40 Tryz.underlying5 _ _ 9 Tryz.underlying9
    | some a =>
      rw [run_convert_bytes_string w 40 9 5 _ _ _ Tryz.underlying40 Tryz.underlying5 Tryz.underlying9]
      exact run_bytesToString w a 0 cap [] (run_loadCells_list (P := Tryz.prog) w a [] (fun j v hj => by simp at hj))
  · obtain ⟨b, off, rfl, _⟩ := h.byte 0 (by omega)
    have := run_convert_bytes_arg (P := Tryz.prog) (w := w) 40 5 Tryz.underlying40 Tryz.underlying5 b off bs.length cap (bs.map fun c => (c.toNat : Int)) (by simp) (fun i hi => by
      obtain ⟨b', off', e, hc⟩ := h.byte i hi
      simp only [Option.some.injEq, Addr.mk.injEq] at e
      obtain ⟨rfl, rfl, _⟩ := e
      rw [hc]
      simp [hi]) 9 Tryz.underlying9
    rw [this]
    simp [strOfNums, Function.comp_def]
theorem grown_below {w w' : World} (h : Below w.heap.size w w') (row : Option Nat) : w.grownBy w' row := ⟨h.os, h.tape, h.output, h.size, fun k hk _ => h.block k hk⟩

theorem Own.later {w wx : World} {B : Nat} {e : TypeId} {v : Value} {vs : List Value} (h : Own w B e v vs) (hb : Below w.heap.size w wx) : Own wx B e v vs :=
  World.ownsRow.kept h (grown_below hb none) (by cases v.ownBlock <;> simp)

theorem not_row {W : World} {B : Nat} {cs : Array Value} {t e : TypeId} {fz : Nat × Nat} (h : W.heap[B]? = some (.cells cs t fz)) (hte : t ≠ e) {base size k : Nat} {v : Value} {xs : List Value} (hr : W.ownsRow base e size v k xs) : some B ≠ v.ownBlock := by
  rcases hr.2 with ⟨rfl, _⟩ | ⟨g, cap, cur, rfl, _, hgb, _⟩
  · simp [Value.ownBlock]
  · intro e'
    obtain rfl : B = g := by simpa [Value.ownBlock] using e'
    have := h.symm.trans hgb
    simp at this
    exact hte this.2.1

def ptsOf (l : List M.Sq) : List Int := l.map fun s => (s.2.1 : Int)
def stsOf (l : List M.Sq) : List Int := l.map fun s => (s.1 : Int)
theorem ptsOf_snoc (l : List M.Sq) (x : M.Sq) : ptsOf (l ++ [x]) = ptsOf l ++ [(x.2.1 : Int)] := by simp [ptsOf]
theorem stsOf_snoc (l : List M.Sq) (x : M.Sq) : stsOf (l ++ [x]) = stsOf l ++ [(x.1 : Int)] := by simp [stsOf]
theorem ptsOf_length (l : List M.Sq) : (ptsOf l).length = l.length := by simp [ptsOf]
theorem stsOf_length (l : List M.Sq) : (stsOf l).length = l.length := by simp [stsOf]

end Go.Proofs.YtidpalighpdlfaaGreatDoor
