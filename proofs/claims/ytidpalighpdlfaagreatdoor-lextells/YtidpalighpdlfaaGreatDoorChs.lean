/- char of lex. -/
import Derived.Test.YtidpalighpdlfaaGreatDoorChr
namespace Go.Proofs.YtidpalighpdlfaaGreatDoor
open Go.RowKit

theorem pre_four (s : List UInt8) : Lib.hasPrefix s [39, 92, 117, 123] = true ↔ ∃ h, s = 39 :: 92 :: 117 :: 123 :: h := by
  unfold Lib.hasPrefix
  rw [List.isPrefixOf_iff_prefix]
  constructor
  · rintro ⟨h, rfl⟩; exact ⟨h, rfl⟩
  · rintro ⟨h, rfl⟩; exact ⟨h, rfl⟩
/-- A character by its number. -/
theorem char_hex (h : List UInt8) : X.charL (92 :: 117 :: 123 :: h) = (hexP h).map fun q => (⟨4, [], (q.1 : Int)⟩, q.2 + 4) := by
  unfold X.charL X.charN hexP
  simp only [if_true]
  by_cases hc : 1 ≤ (h.takeWhile X.isH).length ∧ (h.takeWhile X.isH).length ≤ 6 ∧ X.hexN (h.takeWhile X.isH) ≤ 1114111 ∧ (h.drop (h.takeWhile X.isH).length).head? = some 125
  · rw [if_pos ⟨trivial, trivial, hc⟩, if_pos hc]; rfl
  · rw [if_neg (fun x => hc x.2.2), if_neg hc]; rfl
/-- A character as it stands. -/
theorem char_plain {c : UInt8} {v : List UInt8} (hn : ¬ ∃ h, (39 : UInt8) :: c :: v = 39 :: 92 :: 117 :: 123 :: h) :
    X.charL (c :: v) = if (M.dec (c :: v)).1 = 10 ∨ (M.dec (c :: v)).1 = 92 then none else if M.ok (M.dec (c :: v)) = true then some (⟨4, [], ((M.dec (c :: v)).1 : Int)⟩, (M.dec (c :: v)).2 + 1) else none := by
  have h92 : (M.dec (c :: v)).1 = 92 ↔ c = 92 := (dec_low (by decide)).trans ⟨fun h => UInt8.toNat_inj.1 h, fun h => by rw [h]; rfl⟩
  unfold X.charL
  by_cases hc : c = 92
  · rw [if_pos (.inr (h92.2 hc))]
    simp only [hc, if_true]
    unfold X.charN
    split
    · rename_i x y h
      rw [if_neg]
      rintro ⟨rfl, rfl, _⟩
      exact hn ⟨h, by rw [hc]⟩
    · rfl
  · simp only [hc, if_false]
    by_cases h10 : (M.dec (c :: v)).1 = 10
    · rw [if_neg (fun h => h.2 h10), if_pos (.inl h10)]
    · have hno : ¬ ((M.dec (c :: v)).1 = 10 ∨ (M.dec (c :: v)).1 = 92) := fun h => h.elim h10 (fun h => hc (h92.1 h))
      by_cases hk : M.ok (M.dec (c :: v)) = true
      · rw [if_pos ⟨hk, h10⟩, if_neg hno, if_pos hk]
      · rw [if_neg (fun h => hk h.1), if_neg hno, if_neg hk]

set_option maxRecDepth 100000 in
set_option maxHeartbeats 2000000 in
theorem char_one (s : ByteArray) (hs : s.size ≤ 100000) (h : List UInt8) (hh : bts s = 39 :: 92 :: 117 :: 123 :: h) (w : World) : Calls Tryz.prog 38 #[.string s] w fun e w' => AnsT (X.charL ((bts s).drop 1)) 0 e ∧ Below w.heap.size w w' := by
  have hcp := cutp_any s ⟨#[39, 92, 117, 123]⟩ (w.alloc room)
  rw [show bts ⟨#[39, 92, 117, 123]⟩ = [39, 92, 117, 123] from rfl, (pre_four (bts s)).2 ⟨h, hh⟩, if_pos rfl, show (⟨#[39, 92, 117, 123]⟩ : ByteArray).size = 4 from rfl] at hcp
  have hq := hexp_lex (s.extract 4 s.size) (by rw [extract_size]; omega) (w.alloc room)
  have hb4 : bts (s.extract 4 s.size) = h := by rw [bts_extract, hh]; rfl
  rw [hb4] at hq
  have HU : Hid (X.charL ((bts s).drop 1) = (hexP h).map fun q => (⟨4, [], (q.1 : Int)⟩, q.2 + 4)) := hide (by rw [hh]; exact char_hex h)
  have hlb : ∀ q, hexP h = some q → q.2 ≤ 7 ∧ q.2 ≠ 0 := fun q hq => by
    unfold hexP at hq
    split at hq
    · cases hq; simp only; omega
    · cases hq
  clear hb4 hh
  generalize X.charL ((bts s).drop 1) = o at *
  generalize hexP h = oh at *
  cases oh with
  | none =>
    have HN : Hid (o = none) := hide HU.out
    clear HU hlb
    go_enter Tryz.func38, Tryz.ntmps38
    go_wp2_with fail
    refine hcp.mono ?_
    rintro e w1 ⟨rfl, rfl⟩
    go_wp2_with fail
    refine hq.mono ?_
    rintro e w1 ⟨⟨p, k, rfl, _, hk⟩, hb⟩
    obtain rfl := hk rfl
    obtain ⟨hr0, hbb⟩ := room_kept hb
    clear hb hq hcp hk
    obtain ⟨d0, d1, d2, d3⟩ := cells_four hr0
    have f0 := frozen_row hr0 0
    have f1 := frozen_row hr0 1
    have f2 := frozen_row hr0 2
    have f3 := frozen_row hr0 3
    go_wp2
    exact bodyPost_ret (v := .tuple #[tokV tz 0, .int .i64 0]) (by unfold tokV; simp [results, Tryz.results38, go_sem, d0, d1, d2, d3, tz]) rfl ⟨ansT_none HN.out, by first | (with_reducible exact hbb) | exact four_set hbb _ _ _ _⟩
  | some q =>
    obtain ⟨p, k⟩ := q
    obtain ⟨hk7, hk0⟩ := hlb _ rfl
    simp only at hk7 hk0
    have HN : Hid (o = some (⟨4, [], (p : Int)⟩, k + 4)) := hide HU.out
    clear HU hlb
    have e0 : ((k : Int) == 0) = false := by rw [beq_eq_false_iff_ne]; omega
    go_enter Tryz.func38, Tryz.ntmps38
    go_wp2_with fail
    refine hcp.mono ?_
    rintro e w1 ⟨rfl, rfl⟩
    go_wp2_with fail
    refine hq.mono ?_
    rintro e w1 ⟨⟨p', k', rfl, hpk, _⟩, hb⟩
    obtain ⟨rfl, rfl⟩ := hpk _ rfl
    obtain ⟨hr0, hbb⟩ := room_kept hb
    clear hb hq hcp hpk
    obtain ⟨d0, d1, d2, d3⟩ := cells_four hr0
    have f0 := frozen_row hr0 0
    have f1 := frozen_row hr0 1
    have f2 := frozen_row hr0 2
    have f3 := frozen_row hr0 3
    go_wp2
    exact bodyPost_ret (v := .tuple #[tokV ⟨4, [], (p' : Int)⟩ 0, .int .i64 ((k' + 4 : Nat) : Int)]) (by unfold tokV; simp [results, Tryz.results38, go_sem, d0, d1, d2, d3]; try omega) rfl ⟨ansT_some HN.out, four_set hbb _ _ _ _⟩

theorem no_pre {s : List UInt8} (hn : ¬ ∃ h, s = 39 :: 92 :: 117 :: 123 :: h) : Lib.hasPrefix s [39, 92, 117, 123] = false := by
  cases h : Lib.hasPrefix s [39, 92, 117, 123] with
  | false => rfl
  | true => exact absurd ((pre_four s).1 h) hn
/-- []byte(t), with its capacity. -/
theorem bytes_cap (t : ByteArray) (w : World) : ∃ cap W', (convert 9 40 (.string t)).run Tryz.prog w = .ok (.slice (some ⟨w.heap.size, 0, none⟩) t.size cap) W' ∧ t.size ≤ cap ∧ Rd W' (some ⟨w.heap.size, 0, none⟩) (cB (bts t)) ∧ Below w.heap.size w W' := by
  obtain ⟨cap, W, h1, h2, h3⟩ := bytes_of t w
  have h4 := Lib.run_convert_string_bytes (P := Tryz.prog) w 9 40 5 t Tryz.underlying9 Tryz.underlying40 Tryz.underlying5
  rw [h1] at h4
  injection h4 with h5 _
  injection h5 with _ _ h6
  refine ⟨cap, W, h1, ?_, h2, h3⟩
  rw [h6]
  exact grownCap_ge _ _ _ _
set_option maxRecDepth 100000 in
set_option maxHeartbeats 2000000 in
theorem char_two (s : ByteArray) (hs : s.size ≤ 100000) (h0 : 0 < s.size) (hh : (bts s).head? = some 39) (hn : ¬ ∃ h, bts s = 39 :: 92 :: 117 :: 123 :: h) (w : World) (ht : Tabs w) : Calls Tryz.prog 38 #[.string s] w fun e w' => AnsT (X.charL ((bts s).drop 1)) 0 e ∧ Below w.heap.size w w' := by
  have hcp := cutp_any s ⟨#[39, 92, 117, 123]⟩ (w.alloc room)
  rw [show bts ⟨#[39, 92, 117, 123]⟩ = [39, 92, 117, 123] from rfl, no_pre hn, if_neg (by decide)] at hcp
  obtain ⟨t, htt⟩ : ∃ t, s.extract 1 (min (s.size : Int) 5).toNat = t := ⟨_, rfl⟩
  obtain ⟨u, hu⟩ : ∃ u, (bts s).drop 1 = u := ⟨_, rfl⟩
  have hbt : bts t = u.take 4 := by
    rw [← htt, bts_ext, hu]
    rcases Nat.lt_or_ge s.size 5 with h | h
    · rw [show (min (s.size : Int) 5).toNat - 1 = s.size - 1 by omega, List.take_of_length_le (by rw [← hu, List.length_drop, bts_len]; omega), List.take_of_length_le (by rw [← hu, List.length_drop, bts_len]; omega)]
    · rw [show (min (s.size : Int) 5).toNat - 1 = 4 by omega]
  have hm1 : (1 : Int) ≤ min (s.size : Int) 5 := by omega
  have hm2 : min (s.size : Int) 5 ≤ s.size := by omega
  obtain ⟨cap, W, hrun, hcap, hrd, hbl⟩ := bytes_cap t (w.alloc room)
  have hsz : (w.alloc room).heap.size = w.heap.size + 1 := by simp
  obtain ⟨hr0, hbb⟩ := room_kept hbl
  have htW := ht.later hbb
  have hts : (bts t).length = t.size := rfl
  have hru := runes_any (some ⟨(w.alloc room).heap.size, 0, none⟩) cap (bts t) (by rw [hbt, List.length_take]; omega) hcap (fun e => by cases e) W htW hrd
  rw [hts] at hru
  rw [hu]
  obtain ⟨o, ho⟩ : ∃ o, X.charL u = o := ⟨_, rfl⟩
  rw [ho]
  have HO := hide ho
  clear ho
  rw [hsz] at hrun hru
  cases u with
  | nil =>
    have hz : bts t = [] := hbt
    have HN : Hid (o = none) := hide HO.out.symm
    have hpz : M.pts (bts t) = [] := by rw [hz]; rfl
    rw [hpz] at hru
    clear HO hh hu hbt hz hts hcap hpz
    go_enter Tryz.func38, Tryz.ntmps38
    go_wp2_with fail
    refine hcp.mono ?_
    rintro e w1 ⟨rfl, rfl⟩
    go_wp2_with fail
    refine hru.mono ?_
    rintro e w2 ⟨v1, v2, rfl, ho1, ho2, hb2⟩
    obtain ⟨ao1, cap1, rfl, _, _, _⟩ := ho1.rd
    clear ho1 ho2
    replace hr0 := (hb2.block w.heap.size (by have := hbl.size; omega)).trans hr0
    have hb3 := nx hbb hb2
    clear hru hcp hrd hbl hb2 hbb
    obtain ⟨d0, d1, d2, d3⟩ := cells_four hr0
    have f0 := frozen_row hr0 0
    have f1 := frozen_row hr0 1
    have f2 := frozen_row hr0 2
    have f3 := frozen_row hr0 3
    go_wp2
    exact bodyPost_ret (v := .tuple #[tokV tz 0, .int .i64 0]) (by unfold tokV; simp [results, Tryz.results38, go_sem, d0, d1, d2, d3, tz]) rfl ⟨ansT_none HN.out, by first | (with_reducible exact hb3) | exact four_set hb3 _ _ _ _⟩
  | cons c v =>
    have hdt : M.dec (bts t) = M.dec (c :: v) := by rw [hbt]; exact M.dec_take _
    have hne : bts t ≠ [] := by rw [hbt]; simp
    have hcp2 : (39 : UInt8) :: c :: v = bts s := by
      cases hb : bts s with
      | nil => rw [hb] at hh; cases hh
      | cons x y =>
        rw [hb] at hh hu
        cases hh
        rw [← hu]
        rfl
    have HO2 : Hid (o = if (M.dec (bts t)).1 = 10 ∨ (M.dec (bts t)).1 = 92 then none else if M.ok (M.dec (bts t)) = true then some (⟨4, [], ((M.dec (bts t)).1 : Int)⟩, (M.dec (bts t)).2 + 1) else none) := hide (by
      rw [hdt, ← HO.out]
      exact char_plain (by rw [hcp2]; exact hn))
    obtain ⟨r, hr⟩ := pts_head hne
    rw [hr] at hru
    have HA : Hid (M.at (M.sts (bts t)) (t.size : Int) 1 = ((M.dec (bts t)).2 : Int)) := hide (at_one hne)
    have HG : Hid (M.good ((bts t).take (M.dec (bts t)).2) = M.ok (M.dec (bts t))) := hide (M.good_head hne)
    have hds := M.dec_size hne
    have ht4 : (bts t).length ≤ 4 := by rw [hbt, List.length_take]; omega
    clear HO hh hu hbt hcp2 hdt hr hne
    obtain ⟨⟨p, k⟩, hd⟩ : ∃ d, M.dec (bts t) = d := ⟨_, rfl⟩
    rw [hd] at HO2 hru HA HG hds
    simp only at HO2 hru HA HG hds
    clear hd
    obtain ⟨hk1, hkt, hk4⟩ := hds
    rw [hts] at hkt
    have hkl : ((bts t).take k).length = k := by rw [List.length_take, hts]; omega
    obtain ⟨a1, c1, hrd3, hkc, hnil1, hcut⟩ := cut_to (T := 40) Tryz.underlying40 elemSize40 W (some ⟨w.heap.size + 1, 0, none⟩) (cB (bts t)) t.size cap k hkt hcap (fun e => by cases e) (by rw [hsz] at hrd; exact hrd)
    rw [show (cB (bts t)).take k = cB ((bts t).take k) by simp [cB]] at hrd3
    by_cases h10 : p = 10
    · have e10 : ((p : Int) == 10) = true := by rw [h10]; rfl
      have HN : Hid (o = none) := hide (by rw [HO2.out, if_pos (.inl h10)])
      clear HO2 HA HG hcut hrd3 h10
      go_enter Tryz.func38, Tryz.ntmps38
      go_wp2_with fail
      refine hcp.mono ?_
      rintro e w1 ⟨rfl, rfl⟩
      go_wp2_with fail
      refine hru.mono ?_
      rintro e w2 ⟨v1, v2, rfl, ho1, ho2, hb2⟩
      obtain ⟨ao1, cap1, rfl, _, _, hrd1⟩ := ho1.rd
      obtain ⟨b1, off1, rfl, hcell⟩ := hrd1.rune 0 (by simp)
      simp only [List.getElem_cons_zero] at hcell
      have hcell2 : w2.cell? ⟨b1, off1, none⟩ = some (.int .i32 (p : Int)) := hcell
      rw [cI_length] at ho1 ⊢
      rw [List.length_cons] at ho1 ⊢
      have el : (((r.length + 1 : Nat) : Int) == 0) = false := by rw [beq_eq_false_iff_ne]; omega
      clear ho1 ho2 hrd1
      replace hr0 := (hb2.block w.heap.size (by have := hbl.size; omega)).trans hr0
      have hb3 := nx hbb hb2
      clear hru hcp hrd hbl hb2 hbb
      obtain ⟨d0, d1, d2, d3⟩ := cells_four hr0
      have f0 := frozen_row hr0 0
      have f1 := frozen_row hr0 1
      have f2 := frozen_row hr0 2
      have f3 := frozen_row hr0 3
      go_wp2
      exact bodyPost_ret (v := .tuple #[tokV tz 0, .int .i64 0]) (by unfold tokV; simp [results, Tryz.results38, go_sem, d0, d1, d2, d3, tz]) rfl ⟨ansT_none HN.out, by first | (with_reducible exact hb3) | exact four_set hb3 _ _ _ _⟩
    · have e10 : ((p : Int) == 10) = false := by rw [beq_eq_false_iff_ne]; omega
      by_cases h92 : p = 92
      · have e92 : ((p : Int) == 92) = true := by rw [h92]; rfl
        have HN : Hid (o = none) := hide (by rw [HO2.out, if_pos (.inr h92)])
        clear HO2 HA HG hcut hrd3 h10 h92
        go_enter Tryz.func38, Tryz.ntmps38
        go_wp2_with fail
        refine hcp.mono ?_
        rintro e w1 ⟨rfl, rfl⟩
        go_wp2_with fail
        refine hru.mono ?_
        rintro e w2 ⟨v1, v2, rfl, ho1, ho2, hb2⟩
        obtain ⟨ao1, cap1, rfl, _, _, hrd1⟩ := ho1.rd
        obtain ⟨b1, off1, rfl, hcell⟩ := hrd1.rune 0 (by simp)
        simp only [List.getElem_cons_zero] at hcell
        have hcell2 : w2.cell? ⟨b1, off1, none⟩ = some (.int .i32 (p : Int)) := hcell
        rw [cI_length] at ho1 ⊢
        rw [List.length_cons] at ho1 ⊢
        have el : (((r.length + 1 : Nat) : Int) == 0) = false := by rw [beq_eq_false_iff_ne]; omega
        clear ho1 ho2 hrd1
        replace hr0 := (hb2.block w.heap.size (by have := hbl.size; omega)).trans hr0
        have hb3 := nx hbb hb2
        clear hru hcp hrd hbl hb2 hbb
        obtain ⟨d0, d1, d2, d3⟩ := cells_four hr0
        have f0 := frozen_row hr0 0
        have f1 := frozen_row hr0 1
        have f2 := frozen_row hr0 2
        have f3 := frozen_row hr0 3
        go_wp2
        exact bodyPost_ret (v := .tuple #[tokV tz 0, .int .i64 0]) (by unfold tokV; simp [results, Tryz.results38, go_sem, d0, d1, d2, d3, tz]) rfl ⟨ansT_none HN.out, by first | (with_reducible exact hb3) | exact four_set hb3 _ _ _ _⟩
      · have e92 : ((p : Int) == 92) = false := by rw [beq_eq_false_iff_ne]; omega
        cases hok : M.ok (p, k) with
        | true =>
          rw [hok] at HG
          have HN : Hid (o = some (⟨4, [], (p : Int)⟩, k + 1)) := hide (by rw [HO2.out, if_neg (fun h => h.elim h10 h92), if_pos hok])
          clear HO2 h10 h92 hok
          go_enter Tryz.func38, Tryz.ntmps38
          go_wp2_with fail
          refine hcp.mono ?_
          rintro e w1 ⟨rfl, rfl⟩
          go_wp2_with fail
          refine hru.mono ?_
          rintro e w2 ⟨v1, v2, rfl, ho1, ho2, hb2⟩
          obtain ⟨ao1, cap1, rfl, _, _, hrd1⟩ := ho1.rd
          obtain ⟨b1, off1, rfl, hcell⟩ := hrd1.rune 0 (by simp)
          simp only [List.getElem_cons_zero] at hcell
          have hcell2 : w2.cell? ⟨b1, off1, none⟩ = some (.int .i32 (p : Int)) := hcell
          rw [cI_length] at ho1 ⊢
          rw [List.length_cons] at ho1 ⊢
          have el : (((r.length + 1 : Nat) : Int) == 0) = false := by rw [beq_eq_false_iff_ne]; omega
          obtain ⟨ao2, cap2, rfl, _, _, hrd2⟩ := ho2.rd
          rw [cN_length] at ho2 ⊢
          have hat := at_any ao2 cap2 (M.sts (bts t)) (t.size : Int) 1 w2 (by have := M.pts_length (bts t); have := M.pts_le (bts t); omega) hrd2
          rw [HA.out] at hat
          clear ho1 ho2 hrd1 hrd2
          go_wp2_with fail
          refine hat.mono ?_
          rintro e w3 ⟨rfl, rfl⟩
          have hgd := good_any a1 c1 ((bts t).take k) (by rw [List.length_take]; omega) (by rw [hkl]; exact hkc) hnil1 w2 (htW.later hb2) (hrd3.later hb2)
          rw [hkl, HG.out] at hgd
          go_wp2_with fail
          refine hgd.mono ?_
          rintro e w3 ⟨rfl, hb4⟩
          replace hcell2 := cell_later hb4 hcell2
          replace hr0 := (hb4.block w.heap.size (by have := hbl.size; have := hb2.size; omega)).trans ((hb2.block w.heap.size (by have := hbl.size; omega)).trans hr0)
          have hb3 := nx (nx hbb hb2) hb4
          clear hru hcp hrd hbl hb2 hbb hb4 hgd hat hcell
          obtain ⟨d0, d1, d2, d3⟩ := cells_four hr0
          have f0 := frozen_row hr0 0
          have f1 := frozen_row hr0 1
          have f2 := frozen_row hr0 2
          have f3 := frozen_row hr0 3
          go_wp2
          exact bodyPost_ret (v := .tuple #[tokV ⟨4, [], (p : Int)⟩ 0, .int .i64 ((k + 1 : Nat) : Int)]) (by unfold tokV; simp [results, Tryz.results38, go_sem, d0, d1, d2, d3]; try omega) rfl ⟨ansT_some HN.out, four_set hb3 _ _ _ _⟩
        | false =>
          rw [hok] at HG
          have HN : Hid (o = none) := hide (by rw [HO2.out, if_neg (fun h => h.elim h10 h92), if_neg (by rw [hok]; decide)])
          clear HO2 h10 h92 hok
          go_enter Tryz.func38, Tryz.ntmps38
          go_wp2_with fail
          refine hcp.mono ?_
          rintro e w1 ⟨rfl, rfl⟩
          go_wp2_with fail
          refine hru.mono ?_
          rintro e w2 ⟨v1, v2, rfl, ho1, ho2, hb2⟩
          obtain ⟨ao1, cap1, rfl, _, _, hrd1⟩ := ho1.rd
          obtain ⟨b1, off1, rfl, hcell⟩ := hrd1.rune 0 (by simp)
          simp only [List.getElem_cons_zero] at hcell
          have hcell2 : w2.cell? ⟨b1, off1, none⟩ = some (.int .i32 (p : Int)) := hcell
          rw [cI_length] at ho1 ⊢
          rw [List.length_cons] at ho1 ⊢
          have el : (((r.length + 1 : Nat) : Int) == 0) = false := by rw [beq_eq_false_iff_ne]; omega
          obtain ⟨ao2, cap2, rfl, _, _, hrd2⟩ := ho2.rd
          rw [cN_length] at ho2 ⊢
          have hat := at_any ao2 cap2 (M.sts (bts t)) (t.size : Int) 1 w2 (by have := M.pts_length (bts t); have := M.pts_le (bts t); omega) hrd2
          rw [HA.out] at hat
          clear ho1 ho2 hrd1 hrd2
          go_wp2_with fail
          refine hat.mono ?_
          rintro e w3 ⟨rfl, rfl⟩
          have hgd := good_any a1 c1 ((bts t).take k) (by rw [List.length_take]; omega) (by rw [hkl]; exact hkc) hnil1 w2 (htW.later hb2) (hrd3.later hb2)
          rw [hkl, HG.out] at hgd
          go_wp2_with fail
          refine hgd.mono ?_
          rintro e w3 ⟨rfl, hb4⟩
          replace hcell2 := cell_later hb4 hcell2
          replace hr0 := (hb4.block w.heap.size (by have := hbl.size; have := hb2.size; omega)).trans ((hb2.block w.heap.size (by have := hbl.size; omega)).trans hr0)
          have hb3 := nx (nx hbb hb2) hb4
          clear hru hcp hrd hbl hb2 hbb hb4 hgd hat hcell
          obtain ⟨d0, d1, d2, d3⟩ := cells_four hr0
          have f0 := frozen_row hr0 0
          have f1 := frozen_row hr0 1
          have f2 := frozen_row hr0 2
          have f3 := frozen_row hr0 3
          go_wp2
          exact bodyPost_ret (v := .tuple #[tokV tz 0, .int .i64 0]) (by unfold tokV; simp [results, Tryz.results38, go_sem, d0, d1, d2, d3, tz]) rfl ⟨ansT_none HN.out, by first | (with_reducible exact hb3) | exact four_set hb3 _ _ _ _⟩
end Go.Proofs.YtidpalighpdlfaaGreatDoor
