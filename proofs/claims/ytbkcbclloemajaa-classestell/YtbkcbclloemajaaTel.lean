/- What Cut's answer tells of the lists. -/
import Derived.Test.YtbkcbclloemajaaMkb
namespace Go.Proofs.Ytbkcbclloemajaa
open Go.RowKit Go.Shelf

noncomputable def PC (L : List L3) : List (S.R × Nat) := pieces (endsZ L)
/-- The classes' memberships, in order. -/
noncomputable def msL (L : List L3) : List Nat := msOf (PC L)
noncomputable def mkL (L : List L3) (p : Int) : Nat := msk (TOf L) p L.length
noncomputable def stL (L : List L3) (m : Nat) : List S.R := setsOf (PC L) m
noncomputable def ofL (L : List L3) (r : Int) : Int := if 0 ≤ r ∧ r ≤ 1114111 then ((msL L).idxOf (mkL L r) : Int) else -1
/-- What lies behind the pointer tells the classes of the lists. -/
def Tel (w : World) (pc : Nat) (L : List L3) : Prop :=
  L.length ≤ 64 ∧ (∀ p ∈ L, p.2.2.length ≤ 5000) ∧ Cl w pc L.length (msL L) (stL L) (psOf (msL L) (PC L))
theorem Tel.later {w w' : World} {pc : Nat} {L : List L3} (h : Tel w pc L) (hb : Below w.heap.size w w') : Tel w' pc L := ⟨h.1, h.2.1, h.2.2.later hb⟩
theorem PC_cov (L : List L3) (h : L.length ≤ 64) : Cov (TOf L) L.length (PC L) 1114112 := pieces_cov L h
theorem PC_len (L : List L3) (h : L.length ≤ 64) (h2 : ∀ p ∈ L, p.2.2.length ≤ 5000) : (PC L).length ≤ 640001 := by
  have h3 := (pieces_in (endsZ_in L h)).1
  have h4 := endsZ_length L h h2
  unfold PC
  omega
theorem stL_len (L : List L3) (h : L.length ≤ 64) (h2 : ∀ p ∈ L, p.2.2.length ≤ 5000) (m : Nat) : (stL L m).length ≤ 1000000 := by
  have := PC_len L h h2
  unfold stL setsOf
  rw [List.length_map]
  have := List.length_filter_le (fun p : S.R × Nat => p.2 == m) (PC L)
  omega
theorem msL_mem {L : List L3} (h : L.length ≤ 64) (m : Nat) : m ∈ msL L ↔ ∃ p, 0 ≤ p ∧ p ≤ 1114111 ∧ mkL L p = m := cov_ms (PC_cov L h) m
theorem msL_nodup (L : List L3) : (msL L).Nodup := msOf_nodup _
theorem msL_len (L : List L3) (h : L.length ≤ 64) (h2 : ∀ p ∈ L, p.2.2.length ≤ 5000) : (msL L).length ≤ 640001 := Nat.le_trans (msOf_length _) (PC_len L h h2)
theorem msL_lt {L : List L3} (h : L.length ≤ 64) : ∀ m ∈ msL L, m < 2 ^ 64 := fun m hm => by
  obtain ⟨p, _, _, rfl⟩ := (msL_mem h m).1 hm
  exact Nat.lt_of_lt_of_le (mk_lt _ _ _) (Nat.pow_le_pow_right (by decide) h)
theorem stL_hs {L : List L3} (h : L.length ≤ 64) (m : Nat) (p : Int) : S.hs (stL L m) p ↔ 0 ≤ p ∧ p ≤ 1114111 ∧ mkL L p = m := cov_hs (PC_cov L h) m p

theorem cut_tel (sao : Option Addr) (cap : Nat) (ls : List L3) (hcap : ls.length ≤ cap) (hl2 : ∀ p ∈ ls, p.2.2.length ≤ 5000) (w : World) (hrd : RdS w sao ls) :
    Calls Try.prog 10 #[.slice sao ls.length cap] w fun e W' => e = .returned (.pointer (some ⟨w.heap.size, 0, none⟩)) ∧ Tel W' w.heap.size (ls.take 64) ∧ Below w.heap.size w W' := by
  refine (cut_any sao cap ls hcap hl2 w hrd).mono ?_
  rintro e W' ⟨rfl, e0, _, h⟩
  obtain ⟨h1, h2⟩ := h.cl
  exact ⟨rfl, ⟨by rw [List.length_take]; omega, fun p hp => hl2 p (List.mem_of_mem_take hp), h1⟩, h2⟩
section
variable {w : World} {pc : Nat} {L : List L3}
theorem tel_len (h : Tel w pc L) : Calls Try.prog 12 #[.pointer (some ⟨pc, 0, none⟩)] w fun e w' => e = .returned (.int .i64 ((msL L).length : Int)) ∧ w' = w := clen_any h.2.2
theorem tel_sets (h : Tel w pc L) : Calls Try.prog 15 #[.pointer (some ⟨pc, 0, none⟩)] w fun e w' => e = .returned (.int .i64 (L.length : Int)) ∧ w' = w := sets_any h.2.2
theorem tel_of (h : Tel w pc L) (r : Int) : Calls Try.prog 13 #[.pointer (some ⟨pc, 0, none⟩), .int .i32 r] w fun e w' => e = .returned (.int .i64 (ofL L r)) ∧ Below w.heap.size w w' := by
  have hc := PC_cov L h.1
  have hl := PC_len L h.1 h.2.1
  refine (cof_any h.2.2 (by unfold psOf; rw [List.length_map]; omega) (cov_rise hc) r).mono ?_
  rintro e w' ⟨q, rfl, hb, hq⟩
  exact ⟨by rw [cov_of hc hq]; rfl, hb⟩
theorem tel_in (h : Tel w pc L) (j k : Int) : Calls Try.prog 18 #[.pointer (some ⟨pc, 0, none⟩), .int .i64 j, .int .i64 k] w fun e w' => e = .returned (.bool (decide (0 ≤ j) && decide (0 ≤ k) && decide (k < L.length) && ((msL L)[j.toNat]?.getD 0).testBit k.toNat)) ∧ w' = w := by
  refine (cin_any h.2.2 (msL_lt h.1) h.1 j k).mono ?_
  rintro e w' ⟨⟨b, rfl, hb⟩, rfl⟩
  refine ⟨?_, rfl⟩
  congr 2
  rcases hb with ⟨i, hi, rfl, h1, h2, rfl⟩ | ⟨h1, rfl⟩
  · simp [h1, h2, List.getElem?_eq_getElem hi]
  · by_cases h2 : 0 ≤ j
    · by_cases h3 : 0 ≤ k
      · by_cases h4 : k < L.length
        · have : (msL L).length ≤ j.toNat := by omega
          simp [List.getElem?_eq_none this]
        · simp [h4]
      · simp [h3]
    · simp [h2]
/-- The set of a class. -/
noncomputable def setL (L : List L3) (j : Int) : List S.R := if 0 ≤ j then (((msL L)[j.toNat]?).map (stL L)).getD [] else []
theorem tel_set (h : Tel w pc L) (j : Int) : Calls Try.prog 17 #[.pointer (some ⟨pc, 0, none⟩), .int .i64 j] w fun e w' => ∃ a' c', e = .returned (.slice a' (setL L j).length c') ∧ RdR w' a' (setL L j) ∧ (a' = none → c' = 0) ∧ Below w.heap.size w w' := by
  refine (cset_any h.2.2 (stL_len L h.1 h.2.1) j).mono ?_
  rintro e w' ⟨a', c', xs, rfl, h1, h2, h3, hx⟩
  have : xs = setL L j := by
    unfold setL
    rcases hx with ⟨i, hi, rfl, rfl⟩ | ⟨h4, rfl⟩
    · simp [List.getElem?_eq_getElem hi]
    · by_cases h5 : 0 ≤ j
      · have : (msL L).length ≤ j.toNat := by omega
        simp [List.getElem?_eq_none this]
      · simp [h5]
  subst this
  exact ⟨a', c', rfl, h1, h2, h3⟩
end
theorem setL_at {L : List L3} {i : Nat} (hi : i < (msL L).length) : setL L (i : Int) = stL L (msL L)[i] := by simp [setL, List.getElem?_eq_getElem hi]
theorem setL_len (L : List L3) (h : L.length ≤ 64) (h2 : ∀ p ∈ L, p.2.2.length ≤ 5000) (j : Int) : (setL L j).length ≤ 1000000 := by
  unfold setL
  split
  · cases (msL L)[j.toNat]? with
    | none => simp
    | some m => exact stL_len L h h2 m
  · simp
theorem setL_hs {L : List L3} (h : L.length ≤ 64) {i : Nat} (hi : i < (msL L).length) (p : Int) : S.hs (setL L (i : Int)) p ↔ 0 ≤ p ∧ p ≤ 1114111 ∧ mkL L p = (msL L)[i] := by rw [setL_at hi]; exact stL_hs h _ p

/- The document's own example. -/
theorem PC_nil : PC [] = [((0, 1114111), 0)] := rfl
theorem msL_nil : msL [] = [0] := rfl
theorem PC_one (ao : Option Addr) (c : Nat) : PC [(ao, c, [(97, 122)])] = [((0, 96), 0), ((97, 122), 1), ((123, 1114111), 0)] := by
  have hs : S.set [(97, 122)] = [(97, 122)] := S.set_self (S.canon_one (by decide))
  have he : evT (TOf [(ao, c, [(97, 122)])]) 1 = [(97, 0), (123, 0)] := by
    rw [evT_succ, evT_zero]
    simp [TOf, hs, evR]
  unfold PC endsZ endsL
  rw [List.length_cons, List.length_nil, he]
  decide
end Go.Proofs.Ytbkcbclloemajaa
