/- Next, All, Check, Under of a forest. -/
import Derived.Test.YtbeihgjonhgfmaaGreatDoorChs
import Derived.Test.YtbeihgjonhgfmaaGreatDoorChh
namespace Go.Proofs.YtbeihgjonhgfmaaGreatDoor
open Go.RowKit Go.Shelf Go.Maps
attribute [local go_sem] Oper.semAt_some
namespace C
theorem own_app {W w9 : World} {B : Nat} {v v' : Value} {ss : List Tx} {x : Tx} {tmp : Obj} (hO : OwnN W B v ss) (hB : B ≤ W.heap.size) (hown : w9.ownsRow B 9 1 v' (ss.length + 1) (ss.map tx ++ [tx x])) (hg : (W.alloc tmp).grownBy w9 v.ownBlock) : OwnN w9 B v' (ss ++ [x]) ∧ Below B W w9 := by
  constructor
  · unfold OwnN
    rw [List.map_append, List.length_append]
    exact hown
  · exact ⟨hg.os, hg.tape, hg.output, Nat.le_trans (by simp) hg.size, fun i hi => (hg.block i (by simp; omega) (fun e => by have := hO.block i e.symm; omega)).trans (Below.heap_alloc _ _ _ (by omega))⟩
theorem ks_small {w : World} {a : Nat} {mb : Option Nat} {L : Row} (h : FO w a mb L) : ∀ t ∈ ks L, t.length ≤ 40 := fun t ht => by
  obtain ⟨y, hy, rfl⟩ := List.mem_map.1 ht
  exact (h.small y hy).1
set_option maxRecDepth 100000 in
set_option maxHeartbeats 1000000 in
theorem nextF_any {w : World} {a : Nat} {mb : Option Nat} {L : Row} (h : FO w a mb L) (x : Tx) (hx : x.length ≤ 9223372036854775807) (hA : AF w) :
    Calls Tryz.prog 22 #[.pointer (some ⟨a, 0, none⟩), tx x] w fun e W' => AnsN L x e ∧ Below w.heap.size w W' := by
  have hn := next_any h x hx hA
  have hl := next_len h x
  have hcl := fun W => clone_any ⟨(next L x).1.toArray⟩ (by rw [sz_tx]; omega) W
  unfold AnsN at *
  generalize next L x = nn at *
  obtain ⟨t, m, e⟩ := nn
  clear h hA
  unfold tx at *
  go_enter Tryz.func22, Tryz.ntmps22
  go_wp2_with fail
  refine hn.mono ?_
  rintro e1 w1 ⟨rfl, b1⟩
  clear hn
  go_wp2_with fail
  refine (hcl w1).mono ?_
  rintro e1 w2 ⟨rfl, b2⟩
  clear hcl
  go_wp2
  exact bodyPost_ret (v := .tuple #[.string ⟨t.toArray⟩, .bool m, .int .i64 (e : Int)]) (by simp [results, Tryz.results22, go_sem]) rfl ⟨rfl, nx b1 b2⟩
set_option maxRecDepth 100000 in
set_option maxHeartbeats 2000000 in
theorem all_any {w : World} {a : Nat} {mb : Option Nat} {L : Row} (h : FO w a mb L) (hn : L.length ≤ 1000000) :
    Calls Tryz.prog 12 #[.pointer (some ⟨a, 0, none⟩)] w fun e W' => ∃ v, e = .returned v ∧ OwnN W' w.heap.size v (ks L) ∧ Below w.heap.size w W' := by
  obtain ⟨i0, hi0, hz0, hz1, hz2⟩ := info_parts9 info9N
  have hr := rising_any h hn
  have HKS := hide (ks_small h)
  have hkl : (ks L).length ≤ 1000000 := by unfold ks; rw [List.length_map]; exact hn
  have hes := elemSize30
  generalize ks L = K at *
  clear h hn
  unfold tx at *
  go_enter Tryz.func12, Tryz.ntmps12
  go_wp2_with fail
  refine hr.mono ?_
  rintro e w1 ⟨v, rfl, hO, b1⟩
  obtain ⟨ao, cap, rfl, hcap, hrd⟩ := hO.rd
  have HRD := hide hrd
  have hws := b1.size
  clear hr hO hrd hcap
  go_wp2
  go_loopw [3, 11] (fun v u wr => ∃ i : Nat, u = .int .i64 (i : Int) ∧ i ≤ K.length ∧ OwnN wr w1.heap.size v (K.take i) ∧ Below w1.heap.size w1 wr) (fun _ u _ => K.length - (intOf u).toNat)
  case atStart => exact ⟨0, rfl, by omega, ownN_nil _ _, Below.refl _ _⟩
  case round =>
    obtain ⟨i, rfl, hi, hO, hb⟩ := hrel
    by_cases hlt : i < K.length
    · obtain ⟨b, off, rfl, hbb, hc⟩ := (HRD.out.later hb) i hlt
      have HT : Hid (K.take (i + 1) = K.take i ++ [K[i]]) := hide (by rw [List.take_succ_eq_append_getElem hlt])
      have htl := HKS.out _ (List.getElem_mem hlt)
      have hsl : (K.take i).length ≤ 1000000 := by rw [List.length_take]; omega
      generalize K[i] = t at *
      generalize K.take i = ss at *
      have hcl := clone_any ⟨t.toArray⟩ (by rw [sz_tx]; omega) wr
      have HO := hide hO
      have HB := hide hb
      clear hO hb
      unfold tx at *
      go_wp2_with fail
      refine hcl.mono ?_
      rintro e w2 ⟨rfl, b2⟩
      have HO2 := hide (HO.out.later b2)
      have hbz := HB.out.size
      have hb2z := b2.size
      have rO : w2.ownsRow w1.heap.size 9 1 u3 ss.length (ss.map tx) := HO2.out
      have HB2 : Hid (Below w1.heap.size w1 w2) := hide (HB.out.trans (b2.mono hbz))
      clear hcl b2
      go_wp2_with (at_builtin; refine wpList_append_own_at _ rfl _ _ 30 rfl w1.heap.size 9 i0 (.string ByteArray.empty) 1 16 Tryz.underlying30 hi0 hz0 hz1 hz2 rfl (by decide) _ _ _ rfl (rO.alloc _) ⟨w2.heap.size, 0, none⟩ 1 1 [.string ⟨t.toArray⟩] rfl rfl (one_new _ _ _) (by simp [Value.oneCell']) (by unfold maxLen; omega) (by omega) (by simp; omega) ?_; intro v9 w9 hown9 hgrow9 _ hat9; obtain ⟨g9, cap9, rfl⟩ := ownsRow_succ hown9)
      have fin := own_app HO2.out (by omega) hown9 hgrow9
      go_roundw
      case rel => exact ⟨i + 1, by go_num, by omega, by rw [HT.out]; exact fin.1, HB2.out.trans fin.2⟩
      case measure => simp [intOf]; omega
    · have HE : Hid (K.take i = K) := hide (List.take_of_length_le (by omega))
      have HO := hide hO
      have HB := hide hb
      clear hO hb
      go_wp2
      go_ret
      refine ⟨_, rfl, ?_, b1.trans (HB.out.mono hws)⟩
      have := HO.out
      rw [HE.out] at this
      exact this.low hws
set_option maxRecDepth 100000 in
set_option maxHeartbeats 2000000 in
theorem check_any {w : World} {a : Nat} {mb : Option Nat} {L : Row} (h : FO w a mb L) (hn : L.length ≤ 1000000) (hA : AF w) :
    Calls Tryz.prog 21 #[.pointer (some ⟨a, 0, none⟩)] w fun e W' => e = .returned (.tuple #[tx (check L).1, .int .i64 ((check L).2 : Int)]) ∧ Below w.heap.size w W' := by
  have hr := rising_any h hn
  have HKS := hide (ks_small h)
  have hkl : (ks L).length ≤ 1000000 := by unfold ks; rw [List.length_map]; exact hn
  have hch := fun W (hW : Below w.heap.size w W) (t : Tx) (ht : t.length ≤ 40) => chain_any (h.later hW) t (by omega) (hA.later hW)
  have hes := elemSize30
  have HCK : Hid (check L = match (ks L).find? (fun k => !((chain L k).2 == 0)) with | some k => (k, (chain L k).2) | none => ([], 0)) := hide rfl
  generalize check L = ck at *
  generalize ks L = K at *
  clear h hn hA
  unfold tx at *
  go_enter Tryz.func21, Tryz.ntmps21
  go_wp2_with fail
  refine hr.mono ?_
  rintro e w1 ⟨v, rfl, hO, b1⟩
  obtain ⟨ao, cap, rfl, hcap, hrd⟩ := hO.rd
  have HRD := hide hrd
  have hws := b1.size
  clear hr hO hrd hcap
  go_wp2
  go_loopw [13] (fun u wr => ∃ i : Nat, u = .int .i64 (i : Int) ∧ i ≤ K.length ∧ Hid (∀ t ∈ K.take i, (chain L t).2 = 0) ∧ Below w1.heap.size w1 wr) (fun u _ => K.length - (intOf u).toNat)
  case atStart => exact ⟨0, rfl, by omega, hide (by simp), Below.refl _ _⟩
  case round =>
    obtain ⟨i, rfl, hi, HNO, hb⟩ := hrel
    by_cases hlt : i < K.length
    · obtain ⟨b, off, rfl, hbb, hc⟩ := (HRD.out.later hb) i hlt
      have HT : Hid (K.take (i + 1) = K.take i ++ [K[i]]) := hide (by rw [List.take_succ_eq_append_getElem hlt])
      have HX : Hid (K[i]? = some K[i]) := hide (List.getElem?_eq_getElem hlt)
      have htl := HKS.out _ (List.getElem_mem hlt)
      generalize K[i] = t at *
      have hcw := hch wr (b1.trans (hb.mono hws)) t htl
      have hcl := fun W => clone_any ⟨t.toArray⟩ (by rw [sz_tx]; omega) W
      have HB := hide hb
      clear hb hch
      unfold tx AnsH at *
      go_wp2_with fail
      refine hcw.mono ?_
      rintro e w2 ⟨⟨cv, rfl, hco⟩, b2⟩
      have HB2 : Hid (Below w1.heap.size w1 w2) := hide (HB.out.trans (b2.mono HB.out.size))
      clear hcw b2 HB hco
      by_cases he : (chain L t).2 = 0
      · have HNX : Hid (∀ u ∈ K.take (i + 1), (chain L u).2 = 0) := hide (fun u hu => by
          rw [HT.out] at hu
          rcases List.mem_append.1 hu with hu | hu
          · exact HNO.out u hu
          · rw [List.mem_singleton.1 hu]; exact he)
        rw [he]
        simp only [show ((0 : Nat) : Int) = 0 from rfl]
        clear he hcl
        go_wp2
        go_roundw
        case rel => exact ⟨i + 1, by go_num, by omega, HNX, HB2.out⟩
        case measure => simp [intOf]; omega
      · have HF : Hid (ck = (t, (chain L t).2)) := hide (by
          rw [HCK.out]
          have : K.find? (fun k => !((chain L k).2 == 0)) = some t := by
            rw [List.find?_eq_some_iff_getElem]
            obtain ⟨h1, h2⟩ := List.getElem?_eq_some_iff.1 HX.out
            refine ⟨by simpa using he, i, h1, h2, fun j hj => ?_⟩
            rw [HNO.out K[j] (List.mem_take_iff_getElem.2 ⟨j, by omega, rfl⟩)]
            rfl
          rw [this])
        have g1 : (((chain L t).2 : Int) == 0) = false := by simp; omega
        generalize (chain L t).2 = er at *
        clear he
        go_wp2_with fail
        refine (hcl w2).mono ?_
        rintro e w3 ⟨rfl, b3⟩
        clear hcl
        go_wp2
        exact bodyPost_ret (v := .tuple #[.string ⟨t.toArray⟩, .int .i64 (er : Int)]) (by simp [results, Tryz.results21, go_sem]) rfl ⟨by rw [HF.out], nx (b1.trans (HB2.out.mono hws)) b3⟩
    · have HF : Hid (ck = ([], 0)) := hide (by
        rw [HCK.out, List.find?_eq_none.2]
        intro t ht
        rw [HNO.out t (by rw [List.take_of_length_le (by omega)]; exact ht)]
        simp)
      have HB := hide hb
      clear hb
      go_wp2
      exact bodyPost_ret (v := .tuple #[.string ⟨#[]⟩, .int .i64 0]) (by simp [results, Tryz.results21, go_sem]) rfl ⟨by rw [HF.out]; rfl, b1.trans (HB.out.mono hws)⟩
set_option maxRecDepth 100000 in
set_option maxHeartbeats 2000000 in
theorem under_any {w : World} {a : Nat} {mb : Option Nat} {L : Row} (h : FO w a mb L) (hn : L.length ≤ 1000000) (hA : AF w) (x : Tx) :
    Calls Tryz.prog 13 #[.pointer (some ⟨a, 0, none⟩), tx x] w fun e W' => ∃ v, e = .returned v ∧ OwnN W' w.heap.size v (under L x) ∧ Below w.heap.size w W' := by
  obtain ⟨i0, hi0, hz0, hz1, hz2⟩ := info_parts9 info9N
  have hr := rising_any h hn
  have HKS := hide (ks_small h)
  have hkl : (ks L).length ≤ 1000000 := by unfold ks; rw [List.length_map]; exact hn
  have hch := fun W (hW : Below w.heap.size w W) (t : Tx) (ht : t.length ≤ 40) => chain_any (h.later hW) t (by omega) (hA.later hW)
  have hes := elemSize30
  have HC6 : Hid (∀ t, (chain L t).1.length ≤ 8) := hide (fun t => by
    rcases steps_chain L t with ⟨_, h2⟩ | ⟨_, h2, _⟩
    · have := steps_few L t; rw [h2, List.length_map] at this; exact this
    · rw [h2]; simp)
  have HU : Hid (under L x = (ks L).filter fun k => (chain L k).2 == 0 && (!(k == x) && (chain L k).1.contains x)) := hide rfl
  generalize under L x = un at *
  generalize ks L = K at *
  clear h hn hA
  unfold tx at *
  go_enter Tryz.func13, Tryz.ntmps13
  go_wp2_with fail
  refine hr.mono ?_
  rintro e w1 ⟨v, rfl, hO, b1⟩
  obtain ⟨ao, cap, rfl, hcap, hrd⟩ := hO.rd
  have HRD := hide hrd
  have hws := b1.size
  clear hr hO hrd hcap
  go_wp2
  go_loopw [5, 15] (fun v u wr => ∃ (i : Nat) (ss : List Tx), u = .int .i64 (i : Int) ∧ i ≤ K.length ∧ ss.length ≤ i ∧ OwnN wr w1.heap.size v ss ∧ Hid (ss = (K.take i).filter fun k => (chain L k).2 == 0 && (!(k == x) && (chain L k).1.contains x)) ∧ Below w1.heap.size w1 wr) (fun _ u _ => K.length - (intOf u).toNat)
  case atStart => exact ⟨0, [], rfl, by omega, by simp, ownN_nil _ _, hide (by simp), Below.refl _ _⟩
  case round =>
    obtain ⟨i, ss, rfl, hi, hsl, hO, HSS, hb⟩ := hrel
    by_cases hlt : i < K.length
    · obtain ⟨b, off, rfl, hbb, hc⟩ := (HRD.out.later hb) i hlt
      have HT : Hid (K.take (i + 1) = K.take i ++ [K[i]]) := hide (by rw [List.take_succ_eq_append_getElem hlt])
      have htl := HKS.out _ (List.getElem_mem hlt)
      generalize K[i] = t at *
      have HN0 : Hid (((chain L t).2 == 0 && (!(t == x) && (chain L t).1.contains x)) = false → ss = (K.take (i + 1)).filter fun k => (chain L k).2 == 0 && (!(k == x) && (chain L k).1.contains x)) := hide (fun hf => by
        rw [HT.out, List.filter_append, ← HSS.out]
        simp only [List.filter_cons, List.filter_nil, hf]
        simp)
      have HN1 : Hid (((chain L t).2 == 0 && (!(t == x) && (chain L t).1.contains x)) = true → ss ++ [t] = (K.take (i + 1)).filter fun k => (chain L k).2 == 0 && (!(k == x) && (chain L k).1.contains x)) := hide (fun hf => by
        rw [HT.out, List.filter_append, ← HSS.out]
        simp only [List.filter_cons, List.filter_nil, hf]
        simp)
      have hcw := hch wr (b1.trans (hb.mono hws)) t htl
      have hcl := fun W => clone_any ⟨t.toArray⟩ (by rw [sz_tx]; omega) W
      have HB := hide hb
      have HO := hide hO
      clear hb hch hO HSS HT
      unfold tx AnsH at *
      go_wp2_with fail
      refine hcw.mono ?_
      rintro e w2 ⟨⟨cv, rfl, hco⟩, b2⟩
      have HB2 : Hid (Below w1.heap.size w1 w2) := hide (HB.out.trans (b2.mono HB.out.size))
      have HO2 := hide (HO.out.later b2)
      obtain ⟨ao2, cap2, rfl, _, hrd2⟩ := hco.rd
      have hc6 := HC6.out t
      have hct := contains_any w2 ao2 cap2 (chain L t).1 x hrd2 (by omega)
      have hwz := HB2.out.size
      clear hcw b2 HB hco HO hrd2
      by_cases he : (chain L t).2 = 0
      · by_cases hq : t = x
        · have HSN : Hid (ss = (K.take (i + 1)).filter fun k => (chain L k).2 == 0 && (!(k == x) && (chain L k).1.contains x)) := hide (HN0.out (by simp [hq]))
          have hq1 : (t == x) = true := by simpa using hq
          rw [he]
          simp only [show ((0 : Nat) : Int) = 0 from rfl]
          generalize (chain L t).1 = cx at *
          clear hcl he hq hct HN0 HN1
          go_wp2
          go_roundw
          case rel => exact ⟨i + 1, ss, by go_num, by omega, by omega, HO2.out, HSN, HB2.out⟩
          case measure => simp [intOf]; omega
        · have hq1 : (t == x) = false := by simpa using hq
          cases hcc : (chain L t).1.contains x with
          | false =>
            have HSN : Hid (ss = (K.take (i + 1)).filter fun k => (chain L k).2 == 0 && (!(k == x) && (chain L k).1.contains x)) := hide (HN0.out (by rw [hcc]; simp))
            rw [he]
            rw [hcc] at hct
            simp only [show ((0 : Nat) : Int) = 0 from rfl]
            generalize (chain L t).1 = cx at *
            clear hcl he hq hcc HN0 HN1
            unfold tx at hct
            go_wp2_with fail
            refine hct.mono ?_
            rintro e w3 ⟨rfl, rfl⟩
            clear hct
            go_wp2
            go_roundw
            case rel => exact ⟨i + 1, ss, by go_num, by omega, by omega, HO2.out, HSN, HB2.out⟩
            case measure => simp [intOf]; omega
          | true =>
            have HSN : Hid (ss ++ [t] = (K.take (i + 1)).filter fun k => (chain L k).2 == 0 && (!(k == x) && (chain L k).1.contains x)) := hide (HN1.out (by rw [hcc, he, hq1]; rfl))
            rw [he]
            rw [hcc] at hct
            simp only [show ((0 : Nat) : Int) = 0 from rfl]
            generalize (chain L t).1 = cx at *
            clear he hq hcc HN0 HN1
            unfold tx at hct
            go_wp2_with fail
            refine hct.mono ?_
            rintro e w3 ⟨rfl, rfl⟩
            clear hct
            go_wp2_with fail
            refine (hcl w3).mono ?_
            rintro e w4 ⟨rfl, b4⟩
            have HO4 := hide (HO2.out.later b4)
            have hb4z := b4.size
            have rO : w4.ownsRow w1.heap.size 9 1 u5 ss.length (ss.map tx) := HO4.out
            have HB4 : Hid (Below w1.heap.size w1 w4) := hide (HB2.out.trans (b4.mono hwz))
            clear hcl b4
            go_wp2_with (at_builtin; refine wpList_append_own_at _ rfl _ _ 30 rfl w1.heap.size 9 i0 (.string ByteArray.empty) 1 16 Tryz.underlying30 hi0 hz0 hz1 hz2 rfl (by decide) _ _ _ rfl (rO.alloc _) ⟨w4.heap.size, 0, none⟩ 1 1 [.string ⟨t.toArray⟩] rfl rfl (one_new _ _ _) (by simp [Value.oneCell']) (by unfold maxLen; omega) (by omega) (by simp; omega) ?_; intro v9 w9 hown9 hgrow9 _ hat9; obtain ⟨g9, cap9, rfl⟩ := ownsRow_succ hown9)
            have fin := own_app HO4.out (by omega) hown9 hgrow9
            go_roundw
            case rel => exact ⟨i + 1, ss ++ [t], by go_num, by omega, by simp; omega, fin.1, HSN, HB4.out.trans fin.2⟩
            case measure => simp [intOf]; omega
      · have HSN : Hid (ss = (K.take (i + 1)).filter fun k => (chain L k).2 == 0 && (!(k == x) && (chain L k).1.contains x)) := hide (HN0.out (by simp [he]))
        have g1 : (((chain L t).2 : Int) == 0) = false := by simp; omega
        generalize (chain L t).2 = er at *
        generalize (chain L t).1 = cx at *
        clear hcl he hct HN0 HN1
        go_wp2
        go_roundw
        case rel => exact ⟨i + 1, ss, by go_num, by omega, by omega, HO2.out, HSN, HB2.out⟩
        case measure => simp [intOf]; omega
    · have HE : Hid (ss = un) := hide (by rw [HSS.out, HU.out, List.take_of_length_le (by omega)])
      have HO := hide hO
      have HB := hide hb
      clear hO hb
      go_wp2
      go_ret
      refine ⟨_, rfl, ?_, b1.trans (HB.out.mono hws)⟩
      have := HO.out
      rw [HE.out] at this
      exact this.low hws
end C
end Go.Proofs.YtbeihgjonhgfmaaGreatDoor
