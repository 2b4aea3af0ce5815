/- Is, Parent, Parts of tag. -/
import Derived.Test.YtbeihgjonhgfmaaGreatDoorTgc
import Derived.Test.YtbeihgjonhgfmaaGreatDoorTgr
namespace Go.Proofs.YtbeihgjonhgfmaaGreatDoor
open Go.RowKit Go.Shelf
attribute [local go_sem] Oper.semAt_some

set_option maxHeartbeats 1000000 in
theorem is_any (s : List UInt8) (hl : s.length ≤ 9223372036854775807) (w : World) (hA : AF w) : Calls Tryz.prog 26 #[tx s] w fun e W' => e = .returned (.bool (G.isT s)) ∧ Below w.heap.size w W' := by
  have h := canon_any s hl w hA
  clear hA
  unfold tx at *
  have HI : Hid (G.isT s = (G.canon s == some s)) := hide rfl
  generalize G.isT s = b at *
  go_enter Tryz.func26, Tryz.ntmps26
  go_wp2_with fail
  refine h.mono ?_
  rintro e w1 ⟨⟨t, ht, rfl⟩ | ⟨ht, rfl⟩, hb⟩
  · have HB : Hid (b = (t == s)) := hide (by rw [HI.out, ht]; rfl)
    clear h ht HI
    unfold tx
    go_wp2
    go_ret
    exact ⟨by rw [HB.out]; rfl, hb⟩
  · have HB : Hid (b = false) := hide (by rw [HI.out, ht]; rfl)
    clear h ht HI
    unfold tx
    go_wp2
    go_ret
    exact ⟨by rw [HB.out]; rfl, hb⟩
/-- The last hyphen. -/
theorem last_idx (s : List UInt8) : Lib.lastIndexByte ⟨s.toArray⟩ 45 = match s.reverse.findIdx? (· == 45) with | none => -1 | some i => ((s.length - 1 - i : Nat) : Int) := by
  have hg : ∀ j, j < s.length → (⟨s.toArray⟩ : ByteArray).data[j]! = s[j]! := fun j hj => by simp
  have hc : ∀ c : UInt8, ((c.toNat : Int) = 45) ↔ c = 45 := fun c => ⟨fun h => UInt8.toNat_inj.1 (by show c.toNat = 45; omega), fun h => by rw [h]; rfl⟩
  rcases Lib.lastIndexByte_spec ⟨s.toArray⟩ 45 with ⟨e, h⟩ | ⟨i, hi, e, h1, h2⟩
  · rw [e]
    have : s.reverse.findIdx? (· == 45) = none := by
      rw [List.findIdx?_eq_none_iff]
      intro c hc'
      obtain ⟨j, hj, rfl⟩ := List.mem_iff_getElem.1 (List.mem_reverse.1 hc')
      have := h j (by rw [sz_tx]; exact hj)
      rw [hg j hj, getElem!_pos s j hj] at this
      simp
      intro h3
      exact this ((hc _).2 h3)
    rw [this]
  · rw [sz_tx] at hi
    rw [e]
    rw [hg i hi, getElem!_pos s i hi] at h1
    have hh := (hc _).1 h1
    have : s.reverse.findIdx? (· == 45) = some (s.length - 1 - i) := by
      rw [List.findIdx?_eq_some_iff_getElem]
      refine ⟨by rw [List.length_reverse]; omega, ?_, ?_⟩
      · rw [List.getElem_reverse]
        have : s.length - 1 - (s.length - 1 - i) = i := by omega
        simp only [this, hh]
        rfl
      · intro j hj
        rw [List.getElem_reverse]
        have := h2 (s.length - 1 - j) (by omega) (by rw [sz_tx]; omega)
        rw [hg _ (by omega), getElem!_pos s _ (by omega)] at this
        simp
        exact fun h3 => this ((hc _).2 h3)
    rw [this]
    simp only
    congr 1
    omega
set_option maxRecDepth 100000 in
set_option maxHeartbeats 1000000 in
theorem parent_any (s : List UInt8) (hl : s.length ≤ 9223372036854775807) (w : World) (hA : AF w) : Calls Tryz.prog 24 #[tx s] w fun e W' => e = .returned (tx (G.parent s)) ∧ Below w.heap.size w W' := by
  have h := is_any s hl w hA
  have hs := sz_tx s
  clear hA
  unfold tx at *
  cases hI : G.isT s with
  | false =>
    have HP : Hid (G.parent s = []) := hide (G.parent_none hI)
    rw [hI] at h
    clear hI
    go_enter Tryz.func24, Tryz.ntmps24
    go_wp2_with fail
    refine h.mono ?_
    rintro e w1 ⟨rfl, hb⟩
    go_wp2
    go_ret
    exact ⟨by rw [HP.out]; rfl, hb⟩
  | true =>
    rw [hI] at h
    by_cases hr : s = G.rootB
    · have HP : Hid (G.parent s = []) := hide (by rw [hr]; exact G.parent_root)
      have e1 : (s == [114, 111, 111, 116]) = true := by rw [hr]; rfl
      clear hI hr
      go_enter Tryz.func24, Tryz.ntmps24
      go_wp2_with fail
      refine h.mono ?_
      rintro e w1 ⟨rfl, hb⟩
      go_wp2
      go_ret
      exact ⟨by rw [HP.out]; rfl, hb⟩
    · have e1 : (s == [114, 111, 111, 116]) = false := by
        rw [beq_eq_false_iff_ne]
        exact hr
      have HP : Hid (G.parent s = match s.reverse.findIdx? (· == 45) with | none => G.rootB | some i => s.take (s.length - 1 - i)) := hide (by
        unfold G.parent
        rw [if_neg (by rintro (h | h); (rw [hI] at h; cases h); exact hr h)]
        cases s.reverse.findIdx? (· == 45) <;> rfl)
      have h40 : s.length ≤ 40 := by
        obtain ⟨_, _, _, h4, _⟩ := G.isT_cases hI hr
        exact h4
      have hlb : ∀ W, Calls Tryz.prog 47 #[.string ⟨s.toArray⟩, .int .u8 45] W fun e w' => e = .returned (.int .i64 (Lib.lastIndexByte ⟨s.toArray⟩ 45)) ∧ w' = W := fun W => Any.strings_LastIndexByte lays149 ⟨s.toArray⟩ 45 (by rw [sz_tx]; omega) W
      have HL := hide (last_idx s)
      clear hI hr
      cases hf : s.reverse.findIdx? (· == 45) with
      | none =>
        rw [hf] at HP HL
        have HP2 : Hid (G.parent s = G.rootB) := hide HP.out
        have hL2 : Lib.lastIndexByte ⟨s.toArray⟩ 45 = -1 := HL.out
        rw [hL2] at hlb
        clear hf HP HL hL2
        go_enter Tryz.func24, Tryz.ntmps24
        go_wp2_with fail
        refine h.mono ?_
        rintro e w1 ⟨rfl, hb⟩
        go_wp2_with fail
        refine (hlb w1).mono ?_
        rintro e w2 ⟨rfl, rfl⟩
        go_wp2
        go_ret
        exact ⟨by rw [HP2.out]; rfl, hb⟩
      | some i =>
        rw [hf] at HP HL
        have HP2 : Hid (G.parent s = s.take (s.length - 1 - i)) := hide HP.out
        have hL2 : Lib.lastIndexByte ⟨s.toArray⟩ 45 = ((s.length - 1 - i : Nat) : Int) := HL.out
        obtain ⟨q, hq⟩ : ∃ q, q = s.length - 1 - i := ⟨_, rfl⟩
        rw [← hq] at HP2 hL2
        rw [hL2] at hlb
        have hql : q ≤ s.length := by omega
        have e2 := ext_tx s 0 q
        rw [List.drop_zero, Nat.sub_zero] at e2
        have hcl := fun W => clone_any ⟨(s.take q).toArray⟩ (by rw [sz_tx, List.length_take]; omega) W
        clear hf HP HL hL2 hq
        go_enter Tryz.func24, Tryz.ntmps24
        go_wp2_with fail
        refine h.mono ?_
        rintro e w1 ⟨rfl, hb⟩
        go_wp2_with fail
        refine (hlb w1).mono ?_
        rintro e w2 ⟨rfl, rfl⟩
        go_wp2_with fail
        refine (hcl w2).mono ?_
        rintro e w3 ⟨rfl, hb3⟩
        go_wp2
        go_ret
        exact ⟨by rw [HP2.out]; rfl, nx hb hb3⟩
/-- Parts's memory between the rounds. -/
structure PO (w : World) (P l e0 : Nat) (r : Loop) (ss : List (List UInt8)) (A : World) : Prop where
  own : ∃ v, A.heap[P]? = some (.cells #[v] 30) ∧ OwnN A e0 v ss
  rec_ : A.heap[l + 1]? = some (.loop r)
  def_ : A.heap[l]? = some (.deferred (some []))
  below : Below w.heap.size w A
  le : e0 ≤ A.heap.size
section
variable {w : World} {P l e0 : Nat} {r rb : Loop} {ss : List (List UInt8)} {A : World}
theorem PO.grow (h : PO w P l e0 r ss A) {B : World} (hb : Below A.heap.size A B) : PO w P l e0 r ss B := by
  obtain ⟨⟨v, h2, h2'⟩, h4, h5, h7, h8⟩ := h
  have hk : ∀ (i : Nat) (o : Obj), A.heap[i]? = some o → B.heap[i]? = some o := fun i o hi => (hb.block i (Array.getElem?_eq_some_iff.1 hi).1).trans hi
  exact ⟨⟨v, hk _ _ h2, h2'.later hb⟩, hk _ _ h4, hk _ _ h5, nx h7 hb, Nat.le_trans h8 hb.size⟩
theorem PO.busy (h : PO w P l e0 r ss A) (hP : w.heap.size ≤ P) (hl : P < l) (he : l + 2 ≤ e0) : PO w P l e0 rb ss (A.putObj (l + 1) (.loop rb)) := by
  obtain ⟨⟨v, h2, h2'⟩, h4, h5, h7, h8⟩ := h
  have hne : ∀ k, k ≠ l + 1 → (A.putObj (l + 1) (.loop rb)).heap[k]? = A.heap[k]? := fun k hk => World.putObj_heap_other hk
  exact ⟨⟨v, (hne _ (by omega)).trans h2, h2'.same fun g o hg ho => (hne g (by omega)).trans ho⟩, World.putObj_heap_same (Array.getElem?_eq_some_iff.1 h4).1, (hne _ (by omega)).trans h5, h7.trans (below_put _ _ (by omega)), by rw [World.putObj_size]; exact h8⟩
theorem PO.next (h : PO w P l e0 rb ss A) (hP : w.heap.size ≤ P) (hl : P < l) (he : l + 2 ≤ e0) {v v' : Value} {tmp : Obj} {w1 : World} {x : List UInt8} (hv : OwnN A e0 v ss)
    (hown : w1.ownsRow e0 9 1 v' (ss.length + 1) (ss.map tx ++ [tx x])) (hg : (A.alloc tmp).grownBy w1 v.ownBlock) :
    (w1.setCell ⟨P, 0, none⟩ v').heap[l + 1]? = some (.loop rb) ∧ PO w P l e0 r (ss ++ [x]) ((w1.setCell ⟨P, 0, none⟩ v').putObj (l + 1) (.loop r)) := by
  have hle := h.le
  have hlow : ∀ i, i < e0 → w1.heap[i]? = A.heap[i]? := fun i hi =>
    (hg.block i (by simp; omega) (fun e => by have := hv.block i e.symm; omega)).trans (Below.heap_alloc _ _ _ (by omega))
  have hs1 : A.heap.size ≤ w1.heap.size := Nat.le_trans (by simp) hg.size
  obtain ⟨u, p0, _⟩ := h.own
  have g0 : w1.heap[P]? = some (.cells #[u] 30) := (hlow P (by omega)).trans p0
  have m : ∀ i, i ≠ P → (w1.setCell ⟨P, 0, none⟩ v').heap[i]? = w1.heap[i]? := fun i h1 => set_ne _ h1
  have ml := (m (l + 1) (by omega)).trans ((hlow _ (by omega)).trans h.rec_)
  have hbw : Below w.heap.size w (w1.setCell ⟨P, 0, none⟩ v') := by
    have hb := h.below
    have h1 : Below w.heap.size w w1 := ⟨hg.os.trans hb.os, hg.tape.trans hb.tape, hg.output.trans hb.output, Nat.le_trans hb.size hs1, fun i hi => (hlow i (by omega)).trans (hb.block i hi)⟩
    exact h1.setCell (p := ⟨P, 0, none⟩) (by show w.heap.size ≤ P; omega) _
  refine ⟨ml, PO.busy (r := rb) ⟨⟨v', set_one g0 _, ?_⟩, ml, (m _ (by omega)).trans ((hlow _ (by omega)).trans h.def_), hbw, by rw [set_sz]; omega⟩ hP hl he⟩
  have : OwnN w1 e0 v' (ss ++ [x]) := by
    unfold OwnN
    rw [List.map_append, List.length_append]
    exact hown
  exact this.same fun g o hg ho => (m g (by omega)).trans ho
end
end Go.Proofs.YtbeihgjonhgfmaaGreatDoor
