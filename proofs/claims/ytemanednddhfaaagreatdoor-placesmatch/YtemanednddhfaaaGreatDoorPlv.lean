/- Regions that draw their order, by what holds ahead of and behind each operation, whatever has come up. -/
import Derived.Test.YtemanednddhfaaaGreatDoorPll
namespace Go.Proofs.YtemanednddhfaaaGreatDoor
open Go.RowKit Go.Shelf
namespace Iv
variable {P : Program} {ops : Array Oper} {Q : Exit → Act → World → Prop}
def left (L : Array Bool) : Nat := L.toList.countP fun b => !b
theorem get_of {L : Array Bool} {i : Nat} (h : L.getD i true = false) : ∃ hi : i < L.toList.length, L.toList[i] = false := by
  by_cases hi : i < L.size
  · exact ⟨by simpa using hi, by simpa [Array.getD, hi] using h⟩
  · simp [Array.getD, hi] at h
theorem left_set {L : Array Bool} {i : Nat} (h : L.getD i true = false) : left (L.setIfInBounds i true) + 1 = left L := by
  obtain ⟨hi, h2⟩ := get_of h
  have hpos : 0 < L.toList.countP fun b => !b := List.countP_pos_iff.2 ⟨_, List.getElem_mem hi, by rw [h2]; rfl⟩
  unfold left
  rw [Array.toList_setIfInBounds, List.countP_set hi, h2]
  simp only [Bool.not_false, if_true, Bool.not_true]
  simp only [Bool.false_eq_true, if_false]
  omega
theorem any_of (I : Array Bool → Act → World → Prop) (hI : ∀ L a w i, I L a w → i ∈ Region.ready .any ops L → wpOp P ops Q i (I (L.setIfInBounds i true)) a w)
    (hd : ∀ L a w, I L a w → Region.ready .any ops L = [] → Q .normal a w) : ∀ (fuel : Nat) (L : Array Bool) (a : Act) (w : World), left L ≤ fuel → I L a w → wpAny P .any ops Q fuel L a w
  | 0, L, a, w, hf, h => by
    have hr : Region.ready .any ops L = [] := by
      cases hc : Region.ready .any ops L with
      | nil => rfl
      | cons i l =>
        have hi : i ∈ Region.ready .any ops L := by rw [hc]; exact List.mem_cons_self
        have := left_set (mem_ready.1 hi).1
        omega
    exact ⟨hr, hd L a w h hr⟩
  | fuel + 1, L, a, w, hf, h => ⟨hd L a w h, fun i hi => wpOp_mono (fun a' w' h' => any_of I hI hd fuel _ a' w' (by have := left_set (mem_ready.1 hi).1; omega) h') (hI L a w i h hi)⟩
/-- All edges go back: where nothing is ready all has come up. -/
def back (ops : Array Oper) : Bool := (List.range ops.size).all fun i => match ops[i]? with
  | some o => o.after.toList.all fun e => !Region.binds .any e || Nat.blt e.on i
  | none => true
theorem all_of (hb : back ops = true) {L : Array Bool} (hs : L.size = ops.size) (hr : Region.ready .any ops L = []) : ∀ n i, i < n → i < ops.size → L.getD i false = true
  | 0, _, h, _ => absurd h (Nat.not_lt_zero _)
  | n + 1, i, h, hi => by
    cases hc : L.getD i true with
    | true =>
      have : i < L.size := by omega
      simpa [Array.getD, this] using hc
    | false =>
      have ho : ops[i]? = some ops[i] := Array.getElem?_eq_getElem hi
      have hbi := List.all_eq_true.1 hb i (List.mem_range.2 hi)
      rw [ho] at hbi
      have : i ∈ Region.ready .any ops L := mem_ready.2 ⟨hc, ops[i], ho, fun e he hbd => by
        have h1 := List.all_eq_true.1 hbi e (by simpa using he)
        rw [hbd] at h1
        have h2 : e.on < i := by simpa [Nat.blt_eq] using h1
        exact all_of hb hs hr n e.on (by omega) (by omega)⟩
      rw [hr] at this
      cases this
theorem start {id : Nat} {a : Act} {w : World} (I : Array Bool → Act → World → Prop) (hm : P.follows .mixedOrders = true) (hI : ∀ L a w i, I L a w → i ∈ Region.ready .any ops L → wpOp P ops Q i (I (L.setIfInBounds i true)) a w)
    (hb : back ops = true) (hs : ∀ L a w, I L a w → L.size = ops.size) (hd : ∀ L a w, I L a w → (∀ i, i < ops.size → L.getD i false = true) → Q .normal a w) (h : I (Array.replicate ops.size false) a w.drew) : (Code.region id ops true).wp P Q a w :=
  wp_region_any hm (any_of I hI (fun L a w hi hr => hd L a w hi fun i hh => all_of hb (hs L a w hi) hr ops.size i hh hh) _ _ _ _ (by
    unfold left
    refine Nat.le_trans (List.countP_le_length) ?_
    simp) h)
theorem val {i : Nat} {K : Act → World → Prop} {a : Act} {w w' : World} {o : Oper} {v : Value} (ho : ops[i]? = some o) (hg : o.guard = none) (hr : (execOp a.eval o).run P w = .ok (.value v) w') (h : K (a.put o.dst v) w') : wpOp P ops Q i K a w := by
  unfold wpOp
  simp only [ho]
  rw [if_pos (by unfold Region.wanted; rw [hg])]
  refine .inl ?_
  unfold Oper.wp
  rw [hr]
  exact h
theorem skip {i : Nat} {K : Act → World → Prop} {a : Act} {w w' : World} {o : Oper} (ho : ops[i]? = some o) (hg : o.guard = none) (hr : (execOp a.eval o).run P w = .ok .skip w') (h : K (a.put o.dst undef) w') : wpOp P ops Q i K a w := by
  unfold wpOp
  simp only [ho]
  rw [if_pos (by unfold Region.wanted; rw [hg])]
  refine .inl ?_
  unfold Oper.wp
  rw [hr]
  exact h
theorem call {i : Nat} {K : Act → World → Prop} {a : Act} {w : World} {o : Oper} {f : Nat} {xs : Array Operand} {ats : Array TypeId} {vs : Array Value} {R : Ending → World → Prop} (ho : ops[i]? = some o) (hg : o.guard = none) (hop : o.op = .call { callee := .value (.func f), args := xs, argTypes := ats })
    (hvs : #[] ++ xs.map a.eval ++ #[] = vs) (hent : (callFunc f vs).run P w = .ok (.enter f vs) w) (hc : Calls P f vs w R) (hR : ∀ e w', R e w' → ∃ v, e = .returned v ∧ K (a.put o.dst v) w') : wpOp P ops Q i K a w := by
  unfold wpOp
  simp only [ho]
  rw [if_pos (by unfold Region.wanted; rw [hg])]
  refine .inl ?_
  unfold Oper.wp
  have he : (execOp a.eval o).run P w = .ok (.enter f vs) w := by
    obtain ⟨dst, op, type, pos, after, guard⟩ := o
    simp only at hop
    subst hop
    show (callFunc f (#[] ++ xs.map a.eval ++ #[])).run P w = _
    rw [hvs]
    exact hent
  rw [he]
  simp only [Oper.upon]
  refine hc.mono fun e w' hr' => ?_
  obtain ⟨v, rfl, hg⟩ := hR e w' hr'
  exact hg
def upd (f : Nat → Value) (i : Nat) (v : Value) : Nat → Value := fun j => if j = i then v else f j
/-- What the frame's slots hold: of the region's operations those that have come up, else what they held. -/
structure Sl (a0 : Act) (ds : List (Option Nat)) (L : Array Bool) (f : Nat → Value) (a : Act) : Prop where
  defers : a.defers = a0.defers
  size : a.tmps.size = a0.tmps.size
  out : ∀ d, some d ∉ ds → a.tmps.getD d undef = a0.tmps.getD d undef
  inn : ∀ i d, ds[i]? = some (some d) → L.getD i false = true → a.tmps.getD d undef = f i
theorem Sl.start (a0 : Act) (ds : List (Option Nat)) (n : Nat) (f : Nat → Value) : Sl a0 ds (Array.replicate n false) f a0 :=
  ⟨rfl, rfl, fun _ _ => rfl, fun i d _ h => by
    rw [Array.getD_eq_getD_getElem?, Array.getElem?_replicate] at h
    split at h <;> cases h⟩
theorem uniq {ds : List (Option Nat)} (hn : (ds.filterMap id).Nodup) : ∀ {i j d : Nat}, ds[i]? = some (some d) → ds[j]? = some (some d) → i = j := by
  induction ds with
  | nil => intro i j d h; simp at h
  | cons x xs ih =>
    intro i j d h1 h2
    cases x with
    | none =>
      cases i with
      | zero => simp at h1
      | succ i =>
        cases j with
        | zero => simp at h2
        | succ j => exact congrArg (· + 1) (ih (by simpa using hn) (by simpa using h1) (by simpa using h2))
    | some y =>
      have hn' : y ∉ xs.filterMap id ∧ (xs.filterMap id).Nodup := by simpa using hn
      have hno : ∀ k, xs[k]? ≠ some (some y) := fun k hk => hn'.1 (List.mem_filterMap.2 ⟨some y, List.mem_of_getElem? hk, rfl⟩)
      cases i with
      | zero =>
        obtain rfl : y = d := by simpa using h1
        cases j with
        | zero => rfl
        | succ j => exact absurd (by simpa using h2) (hno j)
      | succ i =>
        cases j with
        | zero =>
          obtain rfl : y = d := by simpa using h2
          exact absurd (by simpa using h1) (hno i)
        | succ j => exact congrArg (· + 1) (ih hn'.2 (by simpa using h1) (by simpa using h2))
theorem Sl.put {a0 : Act} {ds : List (Option Nat)} {L : Array Bool} {f : Nat → Value} {a : Act} (h : Sl a0 ds L f a) (hn : (ds.filterMap id).Nodup) {i d : Nat} (hi : ds[i]? = some (some d)) (hd : d < a0.tmps.size) (v : Value) : Sl a0 ds (L.setIfInBounds i true) (upd f i v) (a.put (some d) v) := by
  refine ⟨h.defers, by simp only [Act.put, Array.size_setIfInBounds]; exact h.size, fun e he => ?_, fun j e hj hl => ?_⟩
  · have hne : d ≠ e := fun e' => he (e' ▸ List.mem_of_getElem? hi)
    rw [← h.out e he]
    simp only [Act.put, Array.getD_eq_getD_getElem?, Array.getElem?_setIfInBounds_ne hne]
  · by_cases hji : j = i
    · subst hji
      rw [hi] at hj
      cases hj
      have hd' : d < a.tmps.size := by rw [h.size]; exact hd
      simp [Act.put, upd, Array.getD_eq_getD_getElem?, hd']
    · have hne : d ≠ e := fun e' => hji (uniq hn hj (e' ▸ hi))
      rw [getD_set_ne false (Ne.symm hji)] at hl
      have := h.inn j e hj hl
      unfold upd
      rw [if_neg hji, ← this]
      simp only [Act.put, Array.getD_eq_getD_getElem?, Array.getElem?_setIfInBounds_ne hne]
theorem Sl.skip {a0 : Act} {ds : List (Option Nat)} {L : Array Bool} {f : Nat → Value} {a : Act} (h : Sl a0 ds L f a) {i : Nat} (hi : ds[i]? = some none) : Sl a0 ds (L.setIfInBounds i true) f a :=
  ⟨h.defers, h.size, h.out, fun j e hj hl => h.inn j e hj (by rw [getD_set_ne false (fun e' => by subst e'; rw [hi] at hj; cases hj)] at hl; exact hl)⟩
theorem look_of {a0 : Act} {g : Nat → Value} : ∀ (l : List (Nat × Value)) (d : Nat), (∀ p ∈ l, g p.1 = p.2) → ((∀ p ∈ l, p.1 ≠ d) → g d = a0.tmps.getD d undef) → g d = Reg.look a0 l d
  | [], d, _, h => h (fun p hp => by cases hp)
  | p :: l, d, h1, h2 => by
    unfold Reg.look
    by_cases e : p.1 = d
    · subst e
      rw [show Nat.beq p.1 p.1 = true from Nat.beq_refl _, cond_true]
      exact h1 p List.mem_cons_self
    · have hne : Nat.beq p.1 d = false := by
        cases hb : Nat.beq p.1 d with
        | true => exact absurd (Nat.eq_of_beq_eq_true hb) e
        | false => rfl
      rw [hne, cond_false]
      exact look_of l d (fun q hq => h1 q (List.mem_cons_of_mem _ hq)) fun h => h2 fun q hq => by
        rcases List.mem_cons.1 hq with rfl | hq
        · exact e
        · exact h q hq
/-- The frame behind the region, spelled. -/
theorem Sl.lit {a0 : Act} {ds : List (Option Nat)} {L : Array Bool} {f : Nat → Value} {a : Act} (h : Sl a0 ds L f a) (l : List (Nat × Value)) (hb : Reg.inB a0 l = true) (h1 : ∀ p ∈ l, a.tmps.getD p.1 undef = p.2) (h2 : ∀ d, (∀ p ∈ l, p.1 ≠ d) → some d ∉ ds) : a = Reg.ov a0 l := by
  have hs : a.tmps = (Reg.ov a0 l).tmps := by
    refine Array.ext (by rw [h.size, Reg.ov_size]) fun i hi hi' => ?_
    have := look_of (a0 := a0) (g := fun d => a.tmps.getD d undef) l i h1 fun hd => h.out i (h2 i hd)
    rw [← Reg.ov_look a0 i l hb] at this
    simpa [Array.getD, hi, hi'] using this
  have hd : a.defers = (Reg.ov a0 l).defers := by rw [h.defers, Reg.ov_defers]
  cases a
  generalize Reg.ov a0 l = b at *
  cases b
  simp_all
end Iv
end Go.Proofs.YtemanednddhfaaaGreatDoor
