/- Joined: Plt Plk. -/
import Derived.Test.YtemanednddhfaaaGreatDoorPls
import Derived.Test.YtemanednddhfaaaGreatDoorPlo
import Derived.Test.YtemanednddhfaaaGreatDoorItr
import Derived.Test.YtemanednddhfaaaGreatDoorPar
namespace Go.Proofs.YtemanednddhfaaaGreatDoor
open Go.RowKit Go.Shelf
attribute [local go_sem] Oper.semAt_some
open E (T)
namespace PA
theorem orL_congr {g g' : Nat → Nat} {l l' : List Nat} {x : Nat} (h : ∀ j, (∃ i ∈ l, (g i).testBit j = true) ↔ ∃ i ∈ l', (g' i).testBit j = true) : orL g l x = orL g' l' x := by
  refine Nat.eq_of_testBit_eq fun j => ?_
  rw [orL_bit, orL_bit]
  congr 1
  rw [Bool.eq_iff_iff, List.any_eq_true, List.any_eq_true]
  exact h j
structure Good (a : Au) : Prop where
  fl : ∀ p ∈ a.pl, p.2 < 2 ^ a.pl.length
  f : a.w.f < 2 ^ a.pl.length
  l : a.w.l < 2 ^ a.pl.length
  len : a.pl.length ≤ 60
  set : ∀ p ∈ a.pl, p.1.length ≤ 200
theorem join_set {f t : Nat} {st : List Pl} (h : ∀ p ∈ st, p.1.length ≤ 200) : ∀ p ∈ join f t st, p.1.length ≤ 200 := by
  intro p hp
  obtain ⟨i, hi, rfl⟩ := List.mem_iff_getElem.1 hp
  rw [join_length] at hi
  rw [join_get f t st i hi]
  split
  · exact h st[i] (List.getElem_mem hi)
  · exact h st[i] (List.getElem_mem hi)
def Sg (g : Tf) : Prop := ∀ st, (∀ p ∈ st, p.1.length ≤ 200) → ∀ p ∈ (g st).1, p.1.length ≤ 200
theorem sg_step {g h : Tf} (hg : Sg g) (hh : Sg h) (k : Int) (s : List U.S.R) (hs : s.length ≤ 200) : Sg (step k s g h) := by
  intro st hst
  unfold step
  split
  · intro p hp
    rcases List.mem_append.1 hp with h1 | h1
    · exact hst p h1
    · rw [List.mem_singleton.1 h1]; exact hs
  split
  · exact join_set (hh _ (hg _ hst))
  split
  · exact hh _ (hg _ hst)
  split
  · exact join_set (hg _ hst)
  split
  · exact join_set (hg _ hst)
  split
  · exact hg _ hst
  · exact hst
theorem sg_nil : Sg nil := fun _ h => h
theorem sg_add : ∀ (n : Nat) (t : T), SizeOf.sizeOf t < n → Okt t → Sg (add t)
  | 0, _, h, _ => absurd h (Nat.not_lt_zero _)
  | n + 1, .mk k a s nm ks, h, ho => by
    have ih : ∀ x ∈ ks, Sg (add x) := fun x hx => sg_add n x (by
      have := List.sizeOf_lt_of_mem hx
      simp at h
      omega) (okt_kid ho hx)
    have hk : ∀ i, Sg ((ks.map add).getD i nil) := fun i => by
      rw [List.getD_eq_getElem?_getD, List.getElem?_map]
      cases hi : ks[i]? with
      | none => exact sg_nil
      | some x => exact ih x (List.mem_of_getElem? hi)
    rw [add_mk]
    exact sg_step (hk 0) (hk 1) k s (okt_self ho).2
theorem good_auto {t : T} (h : Acc t) (hc : ct t ≤ 60) : Good (auto t) := by
  have ho := okt_of h.1
  have hl := auto_len ho
  exact ⟨auto_fl ho, (auto_f ho).1, (auto_f ho).2, by omega, sg_add _ t (Nat.lt_succ_self _) ho [] (fun p hp => by cases hp)⟩
noncomputable def allB (a : Au) (xs : List Int) : Bool := acc a (xs.foldl (fun s r => stp a s r) bg)
theorem behind_zero (a : Au) : behind a 0 = 0 := by
  refine Nat.eq_of_testBit_eq fun j => ?_
  unfold behind
  rw [orL_bit]
  simp
theorem stp_zero (a : Au) (r : Int) : stp a 0 r = 0 := by
  refine Nat.eq_of_testBit_eq fun j => ?_
  unfold stp
  rw [orL_bit, behind_zero]
  simp
theorem fold_zero (a : Au) : ∀ xs : List Int, xs.foldl (fun s r => stp a s r) 0 = 0
  | [] => rfl
  | x :: xs => by rw [List.foldl_cons, stp_zero, fold_zero a xs]
theorem acc_zero (a : Au) : acc a 0 = false := by simp [acc]
theorem behind_lt {a : Au} (h : Good a) (s : Nat) : behind a s < 2 ^ a.pl.length := by
  refine orL_lt _ _ (by split; exact h.f; exact Nat.two_pow_pos _) fun i _ => ?_
  split
  · unfold fol
    cases hi : a.pl[i]? with
    | none => exact Nat.two_pow_pos _
    | some p => exact h.fl p (List.mem_of_getElem? hi)
  · exact Nat.two_pow_pos _
theorem stp_lt (a : Au) (s : Nat) (r : Int) : stp a s r < 2 ^ a.pl.length := by
  refine orL_lt _ _ (Nat.two_pow_pos _) fun i hi => ?_
  split
  · exact Nat.pow_lt_pow_right (by decide) (List.mem_range.1 hi)
  · exact Nat.two_pow_pos _
end PA
theorem behind_eq {qs : List (PA.Pl × Value)} {a : PA.Au} (h : qs.map (·.1) = a.pl) (hl : a.pl.length ≤ 60) (s : Nat) : PA.orL (fQ qs) (plc s) (if s.testBit 63 then a.w.f else 0) = PA.behind a s := by
  have hlen : qs.length = a.pl.length := by rw [← h, List.length_map]
  refine PA.orL_congr fun j => ?_
  constructor
  · rintro ⟨i, hi, hj⟩
    by_cases hil : i < qs.length
    · refine ⟨i, List.mem_range.2 (by omega), ?_⟩
      rw [if_pos (mem_plc.1 hi).2]
      unfold PA.fol
      unfold fQ at hj
      rw [folQ_at hil] at hj
      rw [← h]
      simpa [hil] using hj
    · unfold fQ folQ at hj
      rw [if_neg (by omega)] at hj
      simp at hj
  · rintro ⟨i, hi, hj⟩
    have hil := List.mem_range.1 hi
    by_cases hb : s.testBit i = true
    · rw [if_pos hb] at hj
      refine ⟨i, mem_plc.2 ⟨by omega, hb⟩, ?_⟩
      unfold fQ
      rw [folQ_at (by omega)]
      unfold PA.fol at hj
      rw [← h] at hj
      have hil' : i < qs.length := by omega
      simpa [hil'] using hj
    · rw [if_neg hb] at hj
      simp at hj
theorem stp_eq {qs : List (PA.Pl × Value)} {a : PA.Au} (h : qs.map (·.1) = a.pl) (hg : PA.Good a) (s : Nat) (r : Int) : PA.orL (gQ qs r) (plc (PA.behind a s)) 0 = PA.stp a s r := by
  have hlen : qs.length = a.pl.length := by rw [← h, List.length_map]
  have hgq : ∀ i, i < qs.length → gQ qs r i = if PA.hasB a r i then 2 ^ i else 0 := fun i hi => by
    unfold gQ PA.hasB
    rw [← h]
    simp only [List.getElem?_map, List.getElem?_eq_getElem hi, Option.map_some]
    rfl
  refine PA.orL_congr fun j => ?_
  constructor
  · rintro ⟨i, hi, hj⟩
    have hil : i < a.pl.length := PA.bits_low (PA.behind_lt hg s) _ (PA.mem_bits.2 ⟨by have := (mem_plc.1 hi).1; omega, (mem_plc.1 hi).2⟩)
    refine ⟨i, List.mem_range.2 hil, ?_⟩
    rw [hgq i (by omega)] at hj
    rw [(mem_plc.1 hi).2, Bool.true_and]
    exact hj
  · rintro ⟨i, hi, hj⟩
    have hil := List.mem_range.1 hi
    have hl := hg.len
    by_cases hb : (PA.behind a s).testBit i = true
    · refine ⟨i, mem_plc.2 ⟨by omega, hb⟩, ?_⟩
      rw [hb, Bool.true_and] at hj
      rw [hgq i (by omega)]
      exact hj
    · rw [Bool.eq_false_iff.2 hb, Bool.false_and, if_neg (by decide)] at hj
      simp at hj
section
variable {w : World} {B A : Nat} {a : PA.Au}
theorem AutoAt.step (h : AutoAt w B A a.w a.pl) (hg : PA.Good a) (s : Nat) (r : Int) (hs : s < 2 ^ 64) (hd : Deb w) :
    Calls Tryz.prog 19 #[.pointer (some ⟨A, 0, none⟩), .int .u64 (s : Int), .int .i32 r] w fun e W => e = .returned (.int .u64 ((PA.stp a s r : Nat) : Int)) ∧ Below w.heap.size w W := by
  obtain ⟨v, qs, hq, h⟩ := h
  have hlen : qs.length = a.pl.length := by rw [← hq, List.length_map]
  have hl := hg.len
  have := callsIn_wide.1 (step_in h s r hs (by rw [hlen]; exact hg.f) (fun q hq' => by rw [hlen]; exact hg.fl q.1 (by rw [← hq]; exact List.mem_map_of_mem hq')) (by omega) (fun q hq' => Nat.le_trans (hg.set q.1 (by rw [← hq]; exact List.mem_map_of_mem hq')) (by decide)) hd)
  rw [behind_eq hq hl, stp_eq hq hg] at this
  exact this
theorem AutoAt.accept (h : AutoAt w B A a.w a.pl) (hg : PA.Good a) (s : Nat) (hs : s < 2 ^ 64) :
    Calls Tryz.prog 20 #[.pointer (some ⟨A, 0, none⟩), .int .u64 (s : Int)] w fun e W => e = .returned (.bool (PA.acc a s)) ∧ W = w := by
  obtain ⟨v, qs, hq, h⟩ := h
  have hl := hg.len
  exact accept_any h (PA.up hg.l (by omega)) s hs
theorem AutoAt.len (h : AutoAt w B A a.w a.pl) : Calls Tryz.prog 13 #[.pointer (some ⟨A, 0, none⟩)] w fun e W => e = .returned (.int .i64 (a.pl.length : Int)) ∧ W = w := by
  obtain ⟨v, qs, hq, h⟩ := h
  rw [← hq, List.length_map]
  exact len_any h
theorem AutoAt.first (h : AutoAt w B A a.w a.pl) : Calls Tryz.prog 15 #[.pointer (some ⟨A, 0, none⟩)] w fun e W => e = .returned (.int .u64 (a.w.f : Int)) ∧ W = w := let ⟨_, _, _, h⟩ := h; first_any h
theorem AutoAt.last (h : AutoAt w B A a.w a.pl) : Calls Tryz.prog 16 #[.pointer (some ⟨A, 0, none⟩)] w fun e W => e = .returned (.int .u64 (a.w.l : Int)) ∧ W = w := let ⟨_, _, _, h⟩ := h; last_any h
theorem AutoAt.null (h : AutoAt w B A a.w a.pl) : Calls Tryz.prog 14 #[.pointer (some ⟨A, 0, none⟩)] w fun e W => e = .returned (.bool a.w.n) ∧ W = w := let ⟨_, _, _, h⟩ := h; null_any h
def folI (a : PA.Au) (i : Int) : Nat := if 0 ≤ i ∧ i < a.pl.length then PA.fol a i.toNat else 0
theorem AutoAt.follow (h : AutoAt w B A a.w a.pl) (i : Int) : Calls Tryz.prog 17 #[.pointer (some ⟨A, 0, none⟩), .int .i64 i] w fun e W => e = .returned (.int .u64 (folI a i : Int)) ∧ W = w := by
  obtain ⟨v, qs, hq, h⟩ := h
  have : folQ qs i = folI a i := by
    unfold folQ folI PA.fol
    rw [← hq, List.length_map, List.getElem?_map, Option.map_map]
    rfl
  rw [← this]
  exact follow_any h i
set_option maxRecDepth 100000 in
set_option maxHeartbeats 2000000 in
theorem AutoAt.all (h : AutoAt w B A a.w a.pl) (hg : PA.Good a) (hd : Deb w) (ao : Option Addr) (cap : Nat) (xs : List Int) (hx : RdC32 w ao xs) (hlen : xs.length ≤ 1000000) :
    Calls Tryz.prog 27 #[.pointer (some ⟨A, 0, none⟩), .slice ao xs.length cap] w fun e W => e = .returned (.bool (PA.allB a xs)) ∧ Below w.heap.size w W := by
  have es := elemSize53
  have hst := fun (W : World) (hb : Below w.heap.size w W) (s : Nat) (r : Int) (hs : s < 2 ^ 64) => (h.later hb).step hg s r hs (hd.later hb)
  have hac := fun (W : World) (hb : Below w.heap.size w W) (s : Nat) (hs : s < 2 ^ 64) => (h.later hb).accept hg s hs
  have hl := hg.len
  have HG := hide hg
  have hlt := fun s r => PA.up (PA.stp_lt a s r) (show a.pl.length ≤ 64 by omega)
  clear hg h hd
  go_enter Tryz.func27, Tryz.ntmps27
  go_wp2
  go_loopw [5, 10] (fun p u wr => ∃ s i : Nat, p = .int .u64 (s : Int) ∧ u = .int .i64 (i : Int) ∧ i ≤ xs.length ∧ s < 2 ^ 64 ∧ Hid (s = (xs.take i).foldl (fun s r => PA.stp a s r) PA.bg) ∧ Below w.heap.size w wr) (fun _ u _ => xs.length - (intOf u).toNat)
  case atStart => exact ⟨PA.bg, 0, rfl, rfl, Nat.zero_le _, by decide, hide rfl, Below.refl _ _⟩
  case round =>
    obtain ⟨s, i, rfl, rfl, hi, hs, HS, hB⟩ := hrel
    by_cases hlti : i < xs.length
    · obtain ⟨b, off, rfl, hc⟩ := hx.later hB i hlti
      have HS2 : Hid (PA.stp a s xs[i] = (xs.take (i + 1)).foldl (fun s r => PA.stp a s r) PA.bg) := hide (by rw [List.take_succ_eq_append_getElem hlti, List.foldl_append, ← HS.out]; rfl)
      have HZ : Hid (s = 0 → PA.allB a xs = false) := hide (fun e => by
        unfold PA.allB
        have h1 := HS.out
        rw [← List.take_append_drop i xs, List.foldl_append, ← h1, e, PA.fold_zero, PA.acc_zero])
      have hcall := hst wr hB s xs[i] hs
      have hsl := hlt s xs[i]
      generalize xs[i] = r at *
      by_cases hs0 : s = 0
      · subst hs0
        have HF : Hid (PA.allB a xs = false) := hide (HZ.out rfl)
        clear hst hac hlt hcall hsl hx HS HS2 HZ
        go_wp2
        go_ret
        exact ⟨by rw [HF.out] <;> rfl, hB⟩
      · have hz : ((s : Int) == 0) = false := by simp [hs0]
        generalize PA.stp a s r = s2 at *
        clear hst hac hlt hx HS HZ hs0
        go_wp2_with fail
        refine hcall.mono ?_
        rintro e W2 ⟨rfl, hb2⟩
        have B2 := nx hB hb2
        clear hcall hb2 hc hB
        go_wp2
        exact ⟨⟨s2, i + 1, rfl, by go_num, by omega, hsl, HS2, B2⟩, by simp [intOf]; omega⟩
    · obtain rfl : i = xs.length := by omega
      have hcall := hac wr hB s hs
      have HE : Hid (PA.acc a s = PA.allB a xs) := hide (by
        unfold PA.allB
        have h1 := HS.out
        rw [List.take_length] at h1
        rw [h1])
      generalize PA.acc a s = b at *
      clear hst hac hlt hx HS
      go_wp2_with fail
      refine hcall.mono ?_
      rintro e W2 ⟨rfl, rfl⟩
      go_wp2
      go_ret
      exact ⟨by rw [HE.out] <;> rfl, hB⟩
end
end Go.Proofs.YtemanednddhfaaaGreatDoor
namespace Go.Proofs.YtemanednddhfaaaGreatDoor
open Go.RowKit Go.Shelf
open E (T isS)
attribute [local go_sem] Oper.semAt_some
namespace PA
def nodeC (t : T) : Bool := decide ((t.kids.length : Int) = E.kidsOf t.kind) && ((decide (t.kind = 1) && (decide (t.name = []) && (match t.set with | [r] => decide (0 ≤ r.1) && (decide (r.1 ≤ r.2) && decide (r.2 ≤ 1114111)) | _ => false))) || (decide (3 ≤ t.kind) && (decide (t.kind ≤ 8) && (decide (t.set = []) && decide (t.name = [])))))
def treeC (t : T) : Bool := decide ((E.pre t t).length ≤ 400) && (E.pre t t).all fun p => nodeC p.1
theorem nodeC_ok {t : T} (h : nodeC t = true) : E.NodeOk t ∧ E.NodeB t ∧ t.kind ≠ 2 := by
  unfold nodeC at h
  simp only [Bool.and_eq_true, Bool.or_eq_true, decide_eq_true_eq] at h
  obtain ⟨h1, ⟨h2, h3, h4⟩ | ⟨h2, h3, h4, h5⟩⟩ := h
  · have hk0 : t.kids.length = 0 := by rw [h2, show E.kidsOf 1 = 0 from by decide] at h1; omega
    split at h4
    · rename_i r hr
      simp only [Bool.and_eq_true, decide_eq_true_eq] at h4
      obtain ⟨a, b, c⟩ := h4
      refine ⟨⟨h1, .inl ⟨h2, h3, by rw [hr]; simp, by rw [hr]; exact U.S.canon_one ((U.S.good_iff _).2 ⟨a, b, c⟩)⟩⟩, ⟨?_, by rw [h3]; decide, by rw [hr]; simp, by omega⟩, by omega⟩
      intro q hq
      rw [hr] at hq
      obtain rfl := List.mem_singleton.1 hq
      omega
    · cases h4
  · have hk2 : t.kids.length ≤ 2 := by
      unfold E.kidsOf at h1
      split at h1
      · omega
      · split at h1 <;> omega
    exact ⟨⟨h1, .inr (.inr ⟨h2, h3, h4, h5⟩)⟩, ⟨by rw [h4]; simp, by rw [h5]; decide, by rw [h4]; decide, by omega⟩, by omega⟩
theorem names_none {t : T} (h : ∀ p ∈ E.pre t t, p.1.kind ≠ 2) : E.nmL t = [] := by
  have : E.vnk (E.pre t t) = [] := by
    unfold E.vnk
    rw [List.map_eq_nil_iff, List.filter_eq_nil_iff]
    intro p hp
    simpa using h p hp
  unfold E.nmL
  rw [this]
  simp
  rfl
theorem treeC_ok {t : T} (h : treeC t = true) : Acc t ∧ (∀ p ∈ E.pre t t, E.NodeB p.1) ∧ (E.pre t t).length ≤ 1000000 := by
  unfold treeC at h
  simp only [Bool.and_eq_true, decide_eq_true_eq, List.all_eq_true] at h
  exact ⟨⟨⟨h.1, fun p hp => (nodeC_ok (h.2 p hp)).1⟩, names_none fun p hp => (nodeC_ok (h.2 p hp)).2.2⟩, fun p hp => (nodeC_ok (h.2 p hp)).2.1, by omega⟩
def tAB : T := .mk 4 0 [] [] [.mk 1 0 [(97, 97)] [] [], .mk 1 3 [(98, 98)] [] []]
def t0 : T := .mk 0 0 [] [] []
theorem not_acc0 : ¬ Acc t0 := fun h => by
  have := (h.1.2 (t0, t0) (by rw [pre_self]; exact List.mem_cons_self)).2
  rcases this with ⟨h, _⟩ | ⟨h, _⟩ | ⟨h, _⟩
  · cases h
  · cases h
  · revert h; decide
theorem parse13 : E.parse [39, 97, 32, 39, 98] = .ok tAB := by rfl
theorem tab_ok : treeC tAB = true := by rfl
theorem auto13 : auto tAB = ⟨[([(97, 97)], 2), ([(98, 98)], 0)], ⟨1, 2, false⟩⟩ := by rfl
theorem all13 : allB (auto tAB) [97, 98] = true := by kernel_rfl
theorem scan13 : (match X.scan 0 [39, 97, 32, 39, 98] with | .ok l => l.all fun x => !(decide (x.1.kind = 5)) && (!(isS x [91]) && !(isS x [46])) | .error _ => true) = true := by kernel_rfl
end PA
def lightC (s : List UInt8) : Bool := match X.scan 0 s with | .ok l => l.all fun x => !(decide (x.1.kind = 5)) && (!(isS x [91]) && !(isS x [46])) | .error _ => true
theorem light_of {s : List UInt8} (h : lightC s = true) : ∀ l, X.scan 0 s = .ok l → ∀ x ∈ l, x.1.kind ≠ 5 ∧ isS x [91] = false ∧ isS x [46] = false := by
  intro l hl x hx
  unfold lightC at h
  rw [hl] at h
  have := List.all_eq_true.1 h x hx
  simpa using this
theorem AnsP.ok {t : T} {w w' : World} {e : Ending} (h : AnsP (.ok t) w e w') : Below w.heap.size w w' ∧ ∃ d : ND, e = .returned (.tuple #[d.v, .int .i64 0, .int .i64 0]) ∧ TR w' (fun _ => True) t d.v := by
  obtain ⟨hb, ⟨t', v, h1, h2, h3⟩ | ⟨c, k, h1, _⟩⟩ := h
  · cases h1
    have h4 := TR.mono (ok' := fun _ => True) (fun _ _ _ => trivial) t h3
    obtain ⟨d, rfl, _⟩ := h4.nd
    exact ⟨hb, d, h2, h4⟩
  · cases h1
theorem AnsW.yes {t : T} {w W : World} {e : Ending} (h : AnsW t w e W) (ha : PA.Acc t) (hc : PA.ct t ≤ 60) : Below w.heap.size w W ∧ ∃ A, e = .returned (.tuple #[.pointer (some ⟨A, 0, none⟩), .int .i64 0]) ∧ AutoAt W w.heap.size A (PA.auto t).w (PA.auto t).pl := by
  obtain ⟨hb, ⟨h1, _⟩ | ⟨_, h1, _⟩ | ⟨_, _, h1⟩⟩ := h
  · exact absurd ha h1
  · omega
  · exact ⟨hb, h1⟩
theorem AnsW.no {t : T} {w W : World} {e : Ending} (h : AnsW t w e W) (ha : ¬ PA.Acc t) : Below w.heap.size w W ∧ e = .returned (.tuple #[.pointer none, .int .i64 70]) := by
  obtain ⟨hb, ⟨_, h1⟩ | ⟨h1, _⟩ | ⟨h1, _⟩⟩ := h
  · exact ⟨hb, h1⟩
  · exact absurd h1 ha
  · exact absurd h1 ha
theorem rdc_new (w : World) (xs : List Int) : RdC32 (w.alloc (.cells ⟨xs.map (Value.int .i32)⟩ 21)) (some ⟨w.heap.size, 0, none⟩) xs := fun i hi => ⟨_, _, rfl, by
  have := heap_alloc_new w (.cells ⟨xs.map (Value.int .i32)⟩ 21)
  simp only [World.cell?, this, Nat.zero_add]
  simp [hi]⟩
def dz : ND := ⟨0, 0, none, 0, 0, ⟨#[]⟩, none, 0, 0⟩
theorem tr_zero (w : World) : TR w (fun _ => True) PA.t0 dz.v := by
  unfold PA.t0
  rw [TR]
  exact ⟨none, 0, none, 0, rfl, U.rdr_nil _ _, Nat.le_refl _, by rw [KR]; trivial⟩
theorem pre_zero : E.pre PA.t0 PA.t0 = [(PA.t0, PA.t0)] := by rw [pre_self]; rfl
set_option maxRecDepth 100000 in
set_option maxHeartbeats 4000000 in
theorem known13_any (w : World) (ht : Tabs w) (hd : Deb w) : Calls Tryz.prog 10 #[] w fun e w' => e = .returned (.bool true) ∧ Below w.heap.size w w' := by
  have h1 := parse_light ⟨#[39, 97, 32, 39, 98]⟩ (by decide) (light_of (by kernel_rfl)) w ht
  rw [show E.parse (bts ⟨#[39, 97, 32, 39, 98]⟩) = _ from PA.parse13] at h1
  obtain ⟨hac, hnb, hps⟩ := PA.treeC_ok PA.tab_ok
  have hct : PA.ct PA.tAB ≤ 60 := by decide
  go_enter Tryz.func10, Tryz.ntmps10
  go_wp2_with fail
  refine h1.mono ?_
  intro e w1 ha
  obtain ⟨hb1, d, rfl, htr⟩ := ha.ok
  have a2 := al1 w1 (.cells #[.int .i64 d.k, .int .i64 d.a, .slice d.sp d.sl d.sc, .string d.n, .slice d.kp d.kl d.kc] 26)
  have n2 := heap_alloc_new w1 (.cells #[.int .i64 d.k, .int .i64 d.a, .slice d.sp d.sl d.sc, .string d.n, .slice d.kp d.kl d.kc] 26)
  have s2 : (w1.alloc (.cells #[.int .i64 d.k, .int .i64 d.a, .slice d.sp d.sl d.sc, .string d.n, .slice d.kp d.kl d.kc] 26)).heap.size = w1.heap.size + 1 := by simp
  have B2 := nx hb1 a2
  have hN := new_any PA.tAB d (w1.alloc (.cells #[.int .i64 d.k, .int .i64 d.a, .slice d.sp d.sl d.sc, .string d.n, .slice d.kp d.kl d.kc] 26)) (ht.later B2) (hd.later B2) (TR.later (fun k hk => a2.block k hk) _ htr) hps hnb
  clear h1 ha htr a2 n2
  unfold ND.v at hN ⊢
  go_wp2_with fail
  refine hN.mono ?_
  intro e W3 hw
  obtain ⟨hb3, A, rfl, hA⟩ := hw.yes hac hct
  have B3 := nx B2 hb3
  have hN2 := new_any PA.t0 dz W3 (ht.later B3) (hd.later B3) (tr_zero W3) (by rw [pre_zero]; decide) (by rw [pre_zero]; intro p hp; obtain rfl := List.mem_singleton.1 hp; simp [E.NodeB, PA.t0, T.set, T.name, T.kids])
  clear hN hw
  rw [show dz.v = .agg #[.int .i64 0, .int .i64 0, .slice none 0 0, .string ⟨#[]⟩, .slice none 0 0] from rfl] at hN2
  go_wp2_with fail
  refine hN2.mono ?_
  intro e W4 hw
  obtain ⟨hb4, rfl⟩ := hw.no PA.not_acc0
  have B4 := nx B3 hb4
  have hA4 := hA.later hb4
  rw [PA.auto13] at hA4
  have hg : PA.Good ⟨[([(97, 97)], 2), ([(98, 98)], 0)], ⟨1, 2, false⟩⟩ := by have := PA.good_auto hac hct; rwa [PA.auto13] at this
  have hall : PA.allB ⟨[([(97, 97)], 2), ([(98, 98)], 0)], ⟨1, 2, false⟩⟩ [97, 98] = true := by have := PA.all13; rwa [PA.auto13] at this
  have c1 : Calls Tryz.prog 13 #[.pointer (some ⟨A, 0, none⟩)] W4 fun e W => e = .returned (.int .i64 2) ∧ W = W4 := AutoAt.len (a := ⟨[([(97, 97)], 2), ([(98, 98)], 0)], ⟨1, 2, false⟩⟩) hA4
  have c2 : Calls Tryz.prog 15 #[.pointer (some ⟨A, 0, none⟩)] W4 fun e W => e = .returned (.int .u64 1) ∧ W = W4 := AutoAt.first (a := ⟨[([(97, 97)], 2), ([(98, 98)], 0)], ⟨1, 2, false⟩⟩) hA4
  have c3 : Calls Tryz.prog 16 #[.pointer (some ⟨A, 0, none⟩)] W4 fun e W => e = .returned (.int .u64 2) ∧ W = W4 := AutoAt.last (a := ⟨[([(97, 97)], 2), ([(98, 98)], 0)], ⟨1, 2, false⟩⟩) hA4
  have c4 : Calls Tryz.prog 17 #[.pointer (some ⟨A, 0, none⟩), .int .i64 0] W4 fun e W => e = .returned (.int .u64 2) ∧ W = W4 := AutoAt.follow (a := ⟨[([(97, 97)], 2), ([(98, 98)], 0)], ⟨1, 2, false⟩⟩) hA4 0
  have c5 : Calls Tryz.prog 14 #[.pointer (some ⟨A, 0, none⟩)] W4 fun e W => e = .returned (.bool false) ∧ W = W4 := AutoAt.null (a := ⟨[([(97, 97)], 2), ([(98, 98)], 0)], ⟨1, 2, false⟩⟩) hA4
  have a5 := al1 W4 (.cells #[.int .i32 97, .int .i32 98] 21)
  have c6 : Calls Tryz.prog 27 #[.pointer (some ⟨A, 0, none⟩), .slice (some ⟨W4.heap.size, 0, none⟩) 2 2] (W4.alloc (.cells #[.int .i32 97, .int .i32 98] 21)) fun e W => e = .returned (.bool true) ∧ Below (W4.alloc (.cells #[.int .i32 97, .int .i32 98] 21)).heap.size (W4.alloc (.cells #[.int .i32 97, .int .i32 98] 21)) W := by
    have := AutoAt.all (a := ⟨[([(97, 97)], 2), ([(98, 98)], 0)], ⟨1, 2, false⟩⟩) (hA4.later a5) hg (hd.later (nx B4 a5)) (some ⟨W4.heap.size, 0, none⟩) 2 [97, 98] (rdc_new W4 [97, 98]) (by decide)
    rw [hall] at this
    exact this
  have B5 := nx B4 a5
  clear hN2 hw hA4 hg hall hA a5
  go_wp2_with (first | (refine c1.mono ?_; rintro e w' ⟨rfl, rfl⟩) | (refine c2.mono ?_; rintro e w' ⟨rfl, rfl⟩) | (refine c3.mono ?_; rintro e w' ⟨rfl, rfl⟩) | (refine c4.mono ?_; rintro e w' ⟨rfl, rfl⟩) | (refine c5.mono ?_; rintro e w' ⟨rfl, rfl⟩))
  refine c6.mono ?_
  rintro e W6 ⟨rfl, hb6⟩
  have B6 := nx B5 hb6
  clear c1 c2 c3 c4 c5 c6 hb6 B5 hb4 B4
  go_wp2
  go_ret
  exact ⟨rfl, B6⟩
end Go.Proofs.YtemanednddhfaaaGreatDoor
