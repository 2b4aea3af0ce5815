/- TagClimbs: turned texts; the walk up to root. -/
import Derived.Lib.ConvBytes
import Derived.Deep.LoopGhost
import Derived.Test.YtbeihgjonhgfmaaGreatDoorTge
namespace Go.Proofs.YtbeihgjonhgfmaaGreatDoor
open Go.RowKit Go.Shelf
namespace G
/-- Capitals small and the other way round; low lines for hyphens. -/
def tu (c : UInt8) : UInt8 := if isLo c then (c.toNat - 32).toUInt8 else if isUp c then (c.toNat + 32).toUInt8 else if c == 45 then 95 else c
theorem sep_tu (c : UInt8) : isSep (tu c) = isSep c := by
  have := all_u8 (fun c => isSep (tu c) == isSep c) (by decide +kernel) c
  simpa using this
theorem isL_tu (c : UInt8) : isL (tu c) = isL c := by
  have := all_u8 (fun c => isL (tu c) == isL c) (by decide +kernel) c
  simpa using this
theorem isD_tu (c : UInt8) : isD (tu c) = isD c := by
  have := all_u8 (fun c => isD (tu c) == isD c) (by decide +kernel) c
  simpa using this
theorem isA_tu (c : UInt8) : isA (tu c) = isA c := by unfold isA; rw [isL_tu, isD_tu]
theorem lo_tu {c : UInt8} (h : isA c = true) : lo (tu c) = lo c := by
  have := all_u8 (fun c => !(isA c) || lo (tu c) == lo c) (by decide +kernel) c
  simpa [h] using this
theorem lo_tu_let (c d : UInt8) (hd : isL d = true) : (lo (tu c) = d) ↔ (lo c = d) := by
  by_cases h : isA c = true
  · rw [lo_tu h]
  · have h1 := all_u8 (fun c => isA c || !(isL (lo (tu c)))) (by decide +kernel) c
    have h2 := all_u8 (fun c => isA c || !(isL (lo c))) (by decide +kernel) c
    simp [h] at h1 h2
    constructor
    · intro e; rw [e] at h1; rw [hd] at h1; cases h1
    · intro e; rw [e] at h2; rw [hd] at h2; cases h2
theorem cut_tu (l : List UInt8) : cut (l.map tu) = (cut l).map (List.map tu) := by
  induction l with
  | nil => rfl
  | cons c l ih =>
    rw [List.map_cons, cut, cut, sep_tu, ih]
    split
    · rfl
    · cases cut l <;> rfl
theorem run_tu (l : List UInt8) (a b : Nat) (p : UInt8 → Bool) (h : ∀ c, p (tu c) = p c) : run (l.map tu) a b p = run l a b p := by
  unfold run
  rw [List.length_map, List.all_map]
  congr 2
  funext c
  exact h c
theorem kind_tu (k : Nat) (l : List UInt8) : kind k (l.map tu) = kind k l := by
  have hh : isD ((l.map tu).headD 0) = isD (l.headD 0) := by
    cases l with
    | nil => rfl
    | cons c l => exact isD_tu c
  unfold kind lang script region variant
  rw [run_tu l 2 3 isL isL_tu, run_tu l 4 4 isL isL_tu, run_tu l 2 2 isL isL_tu, run_tu l 3 3 isD isD_tu, run_tu l 5 8 isA isA_tu, run_tu l 4 4 isA isA_tu, hh]
theorem form_tu {l : List UInt8} (k : Nat) (h : l.all isA = true) : form k (l.map tu) = form k l := by
  have : (l.map tu).map lo = l.map lo := by
    rw [List.map_map]
    refine List.map_congr_left fun c hc => ?_
    exact lo_tu (List.all_eq_true.1 h c hc)
  unfold form
  rw [this]
theorem walk_tu : ∀ (xs : List (List UInt8)) (k : Nat) (acc : List (List UInt8)), walk k acc (xs.map (List.map tu)) = walk k acc xs
  | [], _, _ => rfl
  | x :: xs, k, acc => by
    rw [List.map_cons, walk, walk, kind_tu]
    by_cases hk : kind k x = 0
    · rw [if_pos hk, if_pos hk]
    · rw [if_neg hk, if_neg hk, form_tu _ (kind_alnum hk).1]
      split
      · rfl
      · exact walk_tu xs _ _
theorem root_tu (l : List UInt8) : (l.map tu).map lo = rootB ↔ l.map lo = rootB := by
  have key : ∀ (l m : List UInt8), m.all isL = true → ((l.map tu).map lo = m ↔ l.map lo = m) := by
    intro l
    induction l with
    | nil => intro m _; rfl
    | cons c l ih =>
      intro m hm
      cases m with
      | nil => simp
      | cons d m =>
        simp only [List.all_cons, Bool.and_eq_true] at hm
        simp only [List.map_cons, List.cons.injEq]
        rw [lo_tu_let c d hm.1, ih m hm.2]
  exact key l rootB (by decide)
theorem canon_tu (s : List UInt8) : canon (s.map tu) = canon s := by
  unfold canon
  rw [List.length_map, cut_tu, walk_tu]
  simp only [root_tu]
/-- The steps up to root: so many as there are parts. -/
theorem climb {t : List UInt8} (h : isT t = true) (hr : t ≠ rootB) : isT (parent t) = true ∧ 1 ≤ (parts t).length ∧ (parent t ≠ rootB → (parts (parent t)).length + 1 = (parts t).length) := by
  obtain ⟨ps, hp, rfl, hl, hc⟩ := isT_cases h hr
  have hpt : parts (join ps) = ps := by unfold parts; rw [if_pos h, hc]
  rw [hpt]
  obtain ⟨x, xs, rfl, _⟩ := hp.first
  cases hxs : (x :: xs).reverse with
  | nil => simp at hxs
  | cons p qs =>
    have e : x :: xs = qs.reverse ++ [p] := by
      have := congrArg List.reverse hxs
      rw [List.reverse_reverse] at this
      rw [this]; simp
    rw [e] at hp hl ⊢
    by_cases hq : qs.reverse = []
    · rw [hq] at hp hl ⊢
      rw [List.nil_append] at hp hl ⊢
      rw [parent_one hp hl]
      exact ⟨root_isT, by simp, fun h => absurd rfl h⟩
    · obtain ⟨h1, h2, h3⟩ := parent_more hq hp hl
      rw [h1]
      have hi := isT_iff.2 (h2.canon h3)
      refine ⟨hi, by simp, fun _ => ?_⟩
      rw [show parts (join qs.reverse) = qs.reverse by unfold parts; rw [if_pos hi, h2.cut]]
      simp
end G
/-- A row of bytes that the call itself made. -/
def BR (g : Nat) (bs : List UInt8) (A : World) : Prop := ∃ (cs : Array Value) (fz : Nat × Nat), A.heap[g]? = some (.cells cs 5 fz) ∧ cs.size ≤ fz.1 ∧ bs.length ≤ cs.size ∧ ∀ i (h : i < bs.length), cs[i]? = some (U8 bs[i])
theorem BR.new (w : World) (s : List UInt8) : BR w.heap.size s (Lib.bytesWorld w 5 ⟨s.toArray⟩) := by
  refine ⟨_, _, Lib.bytesWorld_at_new w 5 ⟨s.toArray⟩, Nat.le_refl _, ?_, fun i hi => ?_⟩
  · simp [Lib.bytesCells]
  · have hi' : i < (⟨s.toArray⟩ : ByteArray).size := by rw [sz_tx]; exact hi
    have := Lib.bytesWorld_cell w 5 ⟨s.toArray⟩ i hi'
    simp only [World.cell?, Lib.bytesWorld_at_new, Option.isSome_none, Bool.false_eq_true, if_false] at this
    rw [this]
    simp [List.getD_eq_getElem?_getD, List.getElem?_eq_getElem hi]
theorem BR.cell {g : Nat} {bs : List UInt8} {A : World} (h : BR g bs A) {i : Nat} (hi : i < bs.length) : A.cell? ⟨g, i, none⟩ = some (U8 bs[i]) := by
  obtain ⟨cs, fz, h1, h2, h3, h4⟩ := h
  simp only [World.cell?, h1]
  exact h4 i hi
theorem BR.froz {g : Nat} {bs : List UInt8} {A : World} (h : BR g bs A) {i : Nat} (hi : i < bs.length) : A.frozen? ⟨g, i, none⟩ = false := by
  obtain ⟨cs, fz, h1, h2, h3, h4⟩ := h
  simp [World.frozen?, h1]
  omega
theorem BR.set {g : Nat} {bs : List UInt8} {A : World} (h : BR g bs A) {i : Nat} (hi : i < bs.length) (c : UInt8) : BR g (bs.set i c) (A.setCell ⟨g, i, none⟩ (U8 c)) := by
  obtain ⟨cs, fz, h1, h2, h3, h4⟩ := h
  refine ⟨cs.setIfInBounds i (U8 c), fz, by simp [World.setCell, Array.getElem?_modify, h1], by simpa using h2, by simpa using h3, fun j hj => ?_⟩
  rw [List.length_set] at hj
  rw [Array.getElem?_setIfInBounds]
  by_cases e : i = j
  · subst e
    rw [if_pos rfl, if_pos (by omega)]
    simp
  · rw [if_neg e, h4 j hj, List.getElem_set_ne e]
theorem BR.later {g : Nat} {bs : List UInt8} {A B : World} (h : BR g bs A) (hb : Below A.heap.size A B) : BR g bs B := by
  obtain ⟨cs, fz, h1, h2⟩ := h
  exact ⟨cs, fz, (hb.block g (Array.getElem?_eq_some_iff.1 h1).1).trans h1, h2⟩
theorem BR.conv {g : Nat} {bs : List UInt8} {A : World} (h : BR g bs A) (cap : Nat) : (convert 54 9 (.slice (some ⟨g, 0, none⟩) bs.length cap)).run Tryz.prog A = .ok (tx bs) A := by
  have := run_convert_bytes_arg (P := Tryz.prog) (w := A) 54 5 Tryz.underlying54 Tryz.underlying5 g 0 bs.length cap (bs.map fun c => (c.toNat : Int)) (by simp) (fun i hi => by
    have := h.cell hi
    rw [Nat.zero_add, this]
    simp [hi]) 9 Tryz.underlying9
  rw [this]
  simp [strOfNums, Function.comp_def]
theorem elem36 (w : World) : (sizeOf (Tryz.prog.elem 54)).run Tryz.prog w = .ok 1 w := by kernel_rfl
/-- Turned up to a place. -/
def upTo (f : UInt8 → UInt8) (s : List UInt8) (i : Nat) : List UInt8 := (s.map f).take i ++ s.drop i
theorem upTo_len (f : UInt8 → UInt8) (s : List UInt8) (i : Nat) (hi : i ≤ s.length) : (upTo f s i).length = s.length := by unfold upTo; simp; omega
theorem upTo_at' (f : UInt8 → UInt8) (s : List UInt8) (i : Nat) (hi : i < s.length) : (upTo f s i)[i]? = some s[i] := by
  unfold upTo
  rw [List.getElem?_append_right (by simp; omega)]
  have e1 : (List.take i (List.map f s)).length = i := by simp; omega
  rw [e1, Nat.sub_self, List.getElem?_drop, Nat.add_zero, List.getElem?_eq_getElem hi]
theorem upTo_at (f : UInt8 → UInt8) (s : List UInt8) (i : Nat) (hi : i < s.length) (h : i < (upTo f s i).length) : (upTo f s i)[i] = s[i] := by
  have := upTo_at' f s i hi
  rw [List.getElem?_eq_getElem h] at this
  exact Option.some.inj this
theorem upTo_set (f : UInt8 → UInt8) (s : List UInt8) (i : Nat) (hi : i < s.length) : (upTo f s i).set i (f s[i]) = upTo f s (i + 1) := by
  unfold upTo
  rw [List.set_append_right _ _ (by simp; omega)]
  have e1 : (List.take i (List.map f s)).length = i := by simp; omega
  rw [e1, Nat.sub_self, List.drop_eq_getElem_cons hi, List.set_cons_zero, List.take_succ_eq_append_getElem (by simpa using hi)]
  simp
theorem upTo_same (f : UInt8 → UInt8) (s : List UInt8) (i : Nat) (hi : i < s.length) (h : f s[i] = s[i]) : upTo f s (i + 1) = upTo f s i := by
  rw [← upTo_set f s i hi]
  have hl : i < (upTo f s i).length := by rw [upTo_len f s i (by omega)]; exact hi
  have := upTo_at f s i hi hl
  rw [h, ← this]
  simp
theorem upTo_all (f : UInt8 → UInt8) (s : List UInt8) : upTo f s s.length = s.map f := by
  unfold upTo
  rw [List.take_of_length_le (by simp), List.drop_length, List.append_nil]
theorem isLo_n {c : UInt8} : G.isLo c = true ↔ 97 ≤ c.toNat ∧ c.toNat ≤ 122 := by simp [G.isLo]
theorem isUp_n {c : UInt8} : G.isUp c = true ↔ 65 ≤ c.toNat ∧ c.toNat ≤ 90 := by simp [G.isUp]
theorem sub32 {c : UInt8} (h : 97 ≤ c.toNat) : (c.toNat : Int) - 32 = (((c.toNat - 32).toUInt8).toNat : Int) := by
  have := c.toNat_lt
  simp
  omega
theorem add32 {c : UInt8} (h : c.toNat ≤ 90) : (c.toNat : Int) + 32 = (((c.toNat + 32).toUInt8).toNat : Int) := by
  simp
  omega
def rank (t : List UInt8) : Nat := if t = G.rootB then 0 else (G.parts t).length
end Go.Proofs.YtbeihgjonhgfmaaGreatDoor
