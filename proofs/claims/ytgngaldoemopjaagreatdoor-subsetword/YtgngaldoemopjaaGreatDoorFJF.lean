/- Joined: JF. -/
import Derived.Test.YtgngaldoemopjaaGreatDoorFJE
import Derived.OrdersIn
import Derived.Maps.OwnSet
import Derived.Maps.OwnIn
import Derived.Test.YtgngaldoemopjaaGreatDoorFJD
namespace Go.Proofs.YtgngaldoemopjaaGreatDoor
open Go.RowKit
def hexP (h : List UInt8) : Option (Nat × Nat) :=
 if 1 ≤ (h.takeWhile X.isH).length ∧ (h.takeWhile X.isH).length ≤ 6 ∧ X.hexN (h.takeWhile X.isH) ≤ 1114111 ∧ (h.drop (h.takeWhile X.isH).length).head? = some 125
 then some (X.hexN (h.takeWhile X.isH), (h.takeWhile X.isH).length + 1) else none
def AnsH (o : Option (Nat × Nat)) (e : Ending) : Prop := ∃ p k : Nat, e = .returned (.tuple #[.int .i32 (p : Int), .int .i64 (k : Int)]) ∧ (∀ q, o = some q → p = q.1 ∧ k = q.2) ∧ (o = none → k = 0)
theorem ansH_none {o : Option (Nat × Nat)} (h : o = none) : AnsH o (.returned (.tuple #[.int .i32 0, .int .i64 0])) := ⟨0, 0, rfl, (by rw [h]; intro p h; cases h), fun _ => rfl⟩
theorem ansH_some {o : Option (Nat × Nat)} {p k : Nat} (h : o = some (p, k)) : AnsH o (.returned (.tuple #[.int .i32 (p : Int), .int .i64 (k : Int)])) := ⟨p, k, rfl, (by rw [h]; intro p h; cases h; exact ⟨rfl, rfl⟩), (by rw [h]; intro h; cases h)⟩
theorem tw_all (p : UInt8 → Bool) : ∀ (l : List UInt8), ∀ c ∈ l.takeWhile p, p c = true
 | [], c, h => by simp at h
 | b :: l, c, h => by
   by_cases hb : p b = true
   · rw [List.takeWhile_cons_of_pos hb] at h
     rcases List.mem_cons.1 h with rfl | h
     · exact hb
     · exact tw_all p l c h
   · rw [List.takeWhile_cons_of_neg hb] at h; cases h
set_option maxRecDepth 100000 in
set_option maxHeartbeats 2000000 in
theorem hexp_lex (s : ByteArray) (hs : s.size ≤ 100000) (w : World) : Calls Tryz.prog 172 #[.string s] w fun e w' => AnsH (hexP (bts s)) e ∧ Below w.heap.size w w' := by
 have hrun := run_hex s hs w
 have hle := X.takeWhile_le X.isH (bts s)
 rw [bts_len] at hle
 obtain ⟨n, hn⟩ : ∃ n, ((bts s).takeWhile X.isH).length = n := ⟨_, rfl⟩
 have ht : (bts s).takeWhile X.isH = bts (s.extract 0 n) := by
   rw [bts_take, ← hn]
   exact List.prefix_iff_eq_take.1 (List.takeWhile_prefix X.isH)
 have hall : ∀ c ∈ bts (s.extract 0 n), X.isH c = true := by rw [← ht]; exact tw_all _ _
 have hpr := pre_any (s.extract n s.size) ⟨#[125]⟩ w
 rw [bts_extract s n, show bts ⟨#[125]⟩ = [125] from rfl, pre_one] at hpr
 have HU : Hid (hexP (bts s) = if 1 ≤ n ∧ n ≤ 6 ∧ X.hexN (bts (s.extract 0 n)) ≤ 1114111 ∧ ((bts s).drop n).head? = some 125 then some (X.hexN (bts (s.extract 0 n)), n + 1) else none) := hide (by
   unfold hexP
   rw [hn, ht])
 rw [hn] at hrun hle
 clear hn ht
 generalize hexP (bts s) = o at *
 generalize ((bts s).drop n).head? = hd at *
 by_cases hz : n = 0
 · subst hz
   have HN : Hid (o = none) := hide (by rw [HU.out, if_neg (fun h => absurd h.1 (by omega))])
   clear HU hpr hall
   go_enter Tryz.func172, Tryz.ntmps172
   go_wp2_with fail
   refine hrun.mono ?_
   rintro e w1 ⟨rfl, rfl⟩
   go_wp2
   go_ret2
   exact ⟨ansH_none HN.out, Below.refl _ _⟩
 · have hz' : 0 < n := by omega
   clear hz
   have e0 : ((n : Int) == 0) = false := by rw [beq_eq_false_iff_ne]; omega
   by_cases h6 : n ≤ 6
   · have e6 : decide ((6 : Int) < n) = false := decide_eq_false (by omega)
     by_cases hh : hd = some 125
     · rw [decide_eq_true hh] at hpr
       have hsz : (s.extract 0 n).size = n := by rw [ext_size _ _ _ hle]; omega
       have hpi := pint_any (s.extract 0 n) (by omega) (by omega) hall w
       have hlt : X.hexN (bts (s.extract 0 n)) < 16777216 := by
         have h2 := hexN_lt n (bts (s.extract 0 n)) (by rw [bts_len]; exact hsz) hall
         have h3 : 16 ^ n ≤ 16 ^ 6 := Nat.pow_le_pow_right (by decide) (by omega)
         omega
       have HU2 : Hid (o = if X.hexN (bts (s.extract 0 n)) ≤ 1114111 then some (X.hexN (bts (s.extract 0 n)), n + 1) else none) := hide (by
         rw [HU.out]
         by_cases hq : X.hexN (bts (s.extract 0 n)) ≤ 1114111
         · rw [if_pos hq, if_pos ⟨hz', h6, hq, hh⟩]
         · rw [if_neg hq, if_neg (fun h => hq h.2.2.1)])
       clear HU hh hall hsz
       generalize X.hexN (bts (s.extract 0 n)) = m at *
       by_cases hm : m ≤ 1114111
       · have em : decide ((1114111 : Int) < (m : Int)) = false := decide_eq_false (by omega)
         have HN : Hid (o = some (m, n + 1)) := hide (by rw [HU2.out, if_pos hm])
         clear HU2
         go_enter Tryz.func172, Tryz.ntmps172
         go_wp2_with fail
         refine hrun.mono ?_
         rintro e w1 ⟨rfl, rfl⟩
         go_wp2_with fail
         refine hpr.mono ?_
         rintro e w1 ⟨rfl, rfl⟩
         go_wp2_with fail
         refine hpi.mono ?_
         rintro e w2 ⟨rfl, hb⟩
         go_wp2
         go_ret2
         exact ⟨ansH_some HN.out, hb⟩
       · have em : decide ((1114111 : Int) < (m : Int)) = true := decide_eq_true (by omega)
         have HN : Hid (o = none) := hide (by rw [HU2.out, if_neg hm])
         clear HU2
         go_enter Tryz.func172, Tryz.ntmps172
         go_wp2_with fail
         refine hrun.mono ?_
         rintro e w1 ⟨rfl, rfl⟩
         go_wp2_with fail
         refine hpr.mono ?_
         rintro e w1 ⟨rfl, rfl⟩
         go_wp2_with fail
         refine hpi.mono ?_
         rintro e w2 ⟨rfl, hb⟩
         go_wp2
         go_ret2
         exact ⟨ansH_none HN.out, hb⟩
     · rw [decide_eq_false hh] at hpr
       have HN : Hid (o = none) := hide (by rw [HU.out, if_neg (fun h => hh h.2.2.2)])
       clear HU hh hall
       go_enter Tryz.func172, Tryz.ntmps172
       go_wp2_with fail
       refine hrun.mono ?_
       rintro e w1 ⟨rfl, rfl⟩
       go_wp2_with fail
       refine hpr.mono ?_
       rintro e w1 ⟨rfl, rfl⟩
       go_wp2
       go_ret2
       exact ⟨ansH_none HN.out, Below.refl _ _⟩
   · have e6 : decide ((6 : Int) < n) = true := decide_eq_true (by omega)
     have HN : Hid (o = none) := hide (by rw [HU.out, if_neg (fun h => h6 h.2.1)])
     clear HU hpr hall
     go_enter Tryz.func172, Tryz.ntmps172
     go_wp2_with fail
     refine hrun.mono ?_
     rintro e w1 ⟨rfl, rfl⟩
     go_wp2
     go_ret2
     exact ⟨ansH_none HN.out, Below.refl _ _⟩
theorem at_one {l : List UInt8} (h : l ≠ []) : M.at (M.sts l) (l.length : Int) 1 = ((M.dec l).2 : Int) := by
 have hs := M.dec_size h
 have e : M.sts l = (0 : Int) :: (M.rs (0 + (M.dec l).2) (l.drop (M.dec l).2)).map fun s => (s.1 : Int) := by
   unfold M.sts
   rw [M.rs_step 0 h]
   rfl
 rw [e]
 by_cases hd : l.drop (M.dec l).2 = []
 · rw [hd, M.rs_nil]
   have hl : l.length ≤ (M.dec l).2 := by simpa using hd
   unfold M.at
   simp
   omega
 · rw [M.rs_step _ hd]
   unfold M.at
   simp
   rw [if_neg (by omega), if_neg (by omega)]
theorem pts_head {l : List UInt8} (h : l ≠ []) : ∃ r, M.pts l = ((M.dec l).1 : Int) :: r := ⟨_, M.pts_step h⟩
theorem dec_low {c : UInt8} {v : List UInt8} {k : Nat} (hk : k < 128) : (M.dec (c :: v)).1 = k ↔ c.toNat = k := by
 rcases Nat.lt_or_ge c.toNat 128 with h5 | h5
 · have : (M.dec (c :: v)).1 = c.toNat := by unfold M.dec Lib.decodeN; simp [h5]
   rw [this]
 · have : 128 ≤ (M.dec (c :: v)).1 := by
     unfold M.dec Lib.decodeN
     simp only [List.getD_cons_zero]
     rw [if_neg (by omega)]
     repeat' split
     all_goals simp only
     all_goals omega
   omega
end Go.Proofs.YtgngaldoemopjaaGreatDoor
namespace Go.Proofs.YtgngaldoemopjaaGreatDoor
open Go.RowKit
theorem pre_four (s : List UInt8) : Lib.hasPrefix s [39, 92, 117, 123] = true ↔ ∃ h, s = 39 :: 92 :: 117 :: 123 :: h := by
 unfold Lib.hasPrefix
 rw [List.isPrefixOf_iff_prefix]
 constructor
 · rintro ⟨h, rfl⟩; exact ⟨h, rfl⟩
 · rintro ⟨h, rfl⟩; exact ⟨h, rfl⟩
theorem char_hex (h : List UInt8) : X.charL (92 :: 117 :: 123 :: h) = (hexP h).map fun q => (⟨4, [], (q.1 : Int)⟩, q.2 + 4) := by
 unfold X.charL X.charN hexP
 simp only [if_true]
 by_cases hc : 1 ≤ (h.takeWhile X.isH).length ∧ (h.takeWhile X.isH).length ≤ 6 ∧ X.hexN (h.takeWhile X.isH) ≤ 1114111 ∧ (h.drop (h.takeWhile X.isH).length).head? = some 125
 · rw [if_pos ⟨trivial, trivial, hc⟩, if_pos hc]; rfl
 · rw [if_neg (fun x => hc x.2.2), if_neg hc]; rfl
theorem char_plain {c : UInt8} {v : List UInt8} (hn : ¬ ∃ h, (39 : UInt8) :: c :: v = 39 :: 92 :: 117 :: 123 :: h) :
   X.charL (c :: v) = if (M.dec (c :: v)).1 = 10 ∨ (M.dec (c :: v)).1 = 92 then none else if M.ok (M.dec (c :: v)) = true then some (⟨4, [], ((M.dec (c :: v)).1 : Int)⟩, (M.dec (c :: v)).2 + 1) else none := by
 have h92 : (M.dec (c :: v)).1 = 92 ↔ c = 92 := (dec_low (by decide)).trans ⟨fun h => UInt8.toNat_inj.1 h, fun h => by rw [h]; rfl⟩
 unfold X.charL
 by_cases hc : c = 92
 · rw [if_pos (.inr (h92.2 hc))]
   simp only [hc, if_true]
   unfold X.charN
   split
   · rename_i x y h
     rw [if_neg]
     rintro ⟨rfl, rfl, _⟩
     exact hn ⟨h, by rw [hc]⟩
   · rfl
 · simp only [hc, if_false]
   by_cases h10 : (M.dec (c :: v)).1 = 10
   · rw [if_neg (fun h => h.2 h10), if_pos (.inl h10)]
   · have hno : ¬ ((M.dec (c :: v)).1 = 10 ∨ (M.dec (c :: v)).1 = 92) := fun h => h.elim h10 (fun h => hc (h92.1 h))
     by_cases hk : M.ok (M.dec (c :: v)) = true
     · rw [if_pos ⟨hk, h10⟩, if_neg hno, if_pos hk]
     · rw [if_neg (fun h => hk h.1), if_neg hno, if_neg hk]
set_option maxRecDepth 100000 in
set_option maxHeartbeats 2000000 in
theorem char_one (s : ByteArray) (hs : s.size ≤ 100000) (h : List UInt8) (hh : bts s = 39 :: 92 :: 117 :: 123 :: h) (w : World) : Calls Tryz.prog 144 #[.string s] w fun e w' => AnsT (X.charL ((bts s).drop 1)) 0 e ∧ Below w.heap.size w w' := by
 have hcp := cutp_any s ⟨#[39, 92, 117, 123]⟩ (w.alloc room)
 rw [show bts ⟨#[39, 92, 117, 123]⟩ = [39, 92, 117, 123] from rfl, (pre_four (bts s)).2 ⟨h, hh⟩, if_pos rfl, show (⟨#[39, 92, 117, 123]⟩ : ByteArray).size = 4 from rfl] at hcp
 have hq := hexp_lex (s.extract 4 s.size) (by rw [extract_size]; omega) (w.alloc room)
 have hb4 : bts (s.extract 4 s.size) = h := by rw [bts_extract, hh]; rfl
 rw [hb4] at hq
 have HU : Hid (X.charL ((bts s).drop 1) = (hexP h).map fun q => (⟨4, [], (q.1 : Int)⟩, q.2 + 4)) := hide (by rw [hh]; exact char_hex h)
 have hlb : ∀ q, hexP h = some q → q.2 ≤ 7 ∧ q.2 ≠ 0 := fun q hq => by
   unfold hexP at hq
   split at hq
   · cases hq; simp only; omega
   · cases hq
 clear hb4 hh
 generalize X.charL ((bts s).drop 1) = o at *
 generalize hexP h = oh at *
 cases oh with
 | none =>
   have HN : Hid (o = none) := hide HU.out
   clear HU hlb
   go_enter Tryz.func144, Tryz.ntmps144
   go_wp2_with fail
   refine hcp.mono ?_
   rintro e w1 ⟨rfl, rfl⟩
   go_wp2_with fail
   refine hq.mono ?_
   rintro e w1 ⟨⟨p, k, rfl, _, hk⟩, hb⟩
   obtain rfl := hk rfl
   obtain ⟨hr0, hbb⟩ := room_kept hb
   clear hb hq hcp hk
   obtain ⟨d0, d1, d2, d3⟩ := cells_four hr0
   have f0 := frozen_row hr0 0
   have f1 := frozen_row hr0 1
   have f2 := frozen_row hr0 2
   have f3 := frozen_row hr0 3
   go_wp2
   exact bodyPost_ret (v := .tuple #[tokV tz 0, .int .i64 0]) (by unfold tokV; simp [results, Tryz.results144, go_sem, d0, d1, d2, d3, tz]) rfl ⟨ansT_none HN.out, by first | (with_reducible exact hbb) | exact four_set hbb _ _ _ _⟩
 | some q =>
   obtain ⟨p, k⟩ := q
   obtain ⟨hk7, hk0⟩ := hlb _ rfl
   simp only at hk7 hk0
   have HN : Hid (o = some (⟨4, [], (p : Int)⟩, k + 4)) := hide HU.out
   clear HU hlb
   have e0 : ((k : Int) == 0) = false := by rw [beq_eq_false_iff_ne]; omega
   go_enter Tryz.func144, Tryz.ntmps144
   go_wp2_with fail
   refine hcp.mono ?_
   rintro e w1 ⟨rfl, rfl⟩
   go_wp2_with fail
   refine hq.mono ?_
   rintro e w1 ⟨⟨p', k', rfl, hpk, _⟩, hb⟩
   obtain ⟨rfl, rfl⟩ := hpk _ rfl
   obtain ⟨hr0, hbb⟩ := room_kept hb
   clear hb hq hcp hpk
   obtain ⟨d0, d1, d2, d3⟩ := cells_four hr0
   have f0 := frozen_row hr0 0
   have f1 := frozen_row hr0 1
   have f2 := frozen_row hr0 2
   have f3 := frozen_row hr0 3
   go_wp2
   exact bodyPost_ret (v := .tuple #[tokV ⟨4, [], (p' : Int)⟩ 0, .int .i64 ((k' + 4 : Nat) : Int)]) (by unfold tokV; simp [results, Tryz.results144, go_sem, d0, d1, d2, d3]; try omega) rfl ⟨ansT_some HN.out, four_set hbb _ _ _ _⟩
theorem no_pre {s : List UInt8} (hn : ¬ ∃ h, s = 39 :: 92 :: 117 :: 123 :: h) : Lib.hasPrefix s [39, 92, 117, 123] = false := by
 cases h : Lib.hasPrefix s [39, 92, 117, 123] with
 | false => rfl
 | true => exact absurd ((pre_four s).1 h) hn
theorem bytes_cap (t : ByteArray) (w : World) : ∃ cap W', (convert 9 63 (.string t)).run Tryz.prog w = .ok (.slice (some ⟨w.heap.size, 0, none⟩) t.size cap) W' ∧ t.size ≤ cap ∧ Rd W' (some ⟨w.heap.size, 0, none⟩) (cB (bts t)) ∧ Below w.heap.size w W' := by
 obtain ⟨cap, W, h1, h2, h3⟩ := bytes_of t w
 have h4 := Lib.run_convert_string_bytes (P := Tryz.prog) w 9 63 5 t Tryz.underlying9 Tryz.underlying63 Tryz.underlying5
 rw [h1] at h4
 injection h4 with h5 _
 injection h5 with _ _ h6
 refine ⟨cap, W, h1, ?_, h2, h3⟩
 rw [h6]
 exact grownCap_ge _ _ _ _
set_option maxRecDepth 100000 in
set_option maxHeartbeats 2000000 in
theorem char_two (s : ByteArray) (hs : s.size ≤ 100000) (h0 : 0 < s.size) (hh : (bts s).head? = some 39) (hn : ¬ ∃ h, bts s = 39 :: 92 :: 117 :: 123 :: h) (w : World) (ht : Tabs w) : Calls Tryz.prog 144 #[.string s] w fun e w' => AnsT (X.charL ((bts s).drop 1)) 0 e ∧ Below w.heap.size w w' := by
 have hcp := cutp_any s ⟨#[39, 92, 117, 123]⟩ (w.alloc room)
 rw [show bts ⟨#[39, 92, 117, 123]⟩ = [39, 92, 117, 123] from rfl, no_pre hn, if_neg (by decide)] at hcp
 obtain ⟨t, htt⟩ : ∃ t, s.extract 1 (min (s.size : Int) 5).toNat = t := ⟨_, rfl⟩
 obtain ⟨u, hu⟩ : ∃ u, (bts s).drop 1 = u := ⟨_, rfl⟩
 have hbt : bts t = u.take 4 := by
   rw [← htt, bts_ext, hu]
   rcases Nat.lt_or_ge s.size 5 with h | h
   · rw [show (min (s.size : Int) 5).toNat - 1 = s.size - 1 by omega, List.take_of_length_le (by rw [← hu, List.length_drop, bts_len]; omega), List.take_of_length_le (by rw [← hu, List.length_drop, bts_len]; omega)]
   · rw [show (min (s.size : Int) 5).toNat - 1 = 4 by omega]
 have hm1 : (1 : Int) ≤ min (s.size : Int) 5 := by omega
 have hm2 : min (s.size : Int) 5 ≤ s.size := by omega
 obtain ⟨cap, W, hrun, hcap, hrd, hbl⟩ := bytes_cap t (w.alloc room)
 have hsz : (w.alloc room).heap.size = w.heap.size + 1 := by simp
 obtain ⟨hr0, hbb⟩ := room_kept hbl
 have htW := ht.later hbb
 have hts : (bts t).length = t.size := rfl
 have hru := runes_any (some ⟨(w.alloc room).heap.size, 0, none⟩) cap (bts t) (by rw [hbt, List.length_take]; omega) hcap (fun e => by cases e) W htW hrd
 rw [hts] at hru
 rw [hu]
 obtain ⟨o, ho⟩ : ∃ o, X.charL u = o := ⟨_, rfl⟩
 rw [ho]
 have HO := hide ho
 clear ho
 rw [hsz] at hrun hru
 cases u with
 | nil =>
   have hz : bts t = [] := hbt
   have HN : Hid (o = none) := hide HO.out.symm
   have hpz : M.pts (bts t) = [] := by rw [hz]; rfl
   rw [hpz] at hru
   clear HO hh hu hbt hz hts hcap hpz
   go_enter Tryz.func144, Tryz.ntmps144
   go_wp2_with fail
   refine hcp.mono ?_
   rintro e w1 ⟨rfl, rfl⟩
   go_wp2_with fail
   refine hru.mono ?_
   rintro e w2 ⟨v1, v2, rfl, ho1, ho2, hb2⟩
   obtain ⟨ao1, cap1, rfl, _, _, _⟩ := ho1.rd
   clear ho1 ho2
   replace hr0 := (hb2.block w.heap.size (by have := hbl.size; omega)).trans hr0
   have hb3 := nx hbb hb2
   clear hru hcp hrd hbl hb2 hbb
   obtain ⟨d0, d1, d2, d3⟩ := cells_four hr0
   have f0 := frozen_row hr0 0
   have f1 := frozen_row hr0 1
   have f2 := frozen_row hr0 2
   have f3 := frozen_row hr0 3
   go_wp2
   exact bodyPost_ret (v := .tuple #[tokV tz 0, .int .i64 0]) (by unfold tokV; simp [results, Tryz.results144, go_sem, d0, d1, d2, d3, tz]) rfl ⟨ansT_none HN.out, by first | (with_reducible exact hb3) | exact four_set hb3 _ _ _ _⟩
 | cons c v =>
   have hdt : M.dec (bts t) = M.dec (c :: v) := by rw [hbt]; exact M.dec_take _
   have hne : bts t ≠ [] := by rw [hbt]; simp
   have hcp2 : (39 : UInt8) :: c :: v = bts s := by
     cases hb : bts s with
     | nil => rw [hb] at hh; cases hh
     | cons x y =>
       rw [hb] at hh hu
       cases hh
       rw [← hu]
       rfl
   have HO2 : Hid (o = if (M.dec (bts t)).1 = 10 ∨ (M.dec (bts t)).1 = 92 then none else if M.ok (M.dec (bts t)) = true then some (⟨4, [], ((M.dec (bts t)).1 : Int)⟩, (M.dec (bts t)).2 + 1) else none) := hide (by
     rw [hdt, ← HO.out]
     exact char_plain (by rw [hcp2]; exact hn))
   obtain ⟨r, hr⟩ := pts_head hne
   rw [hr] at hru
   have HA : Hid (M.at (M.sts (bts t)) (t.size : Int) 1 = ((M.dec (bts t)).2 : Int)) := hide (at_one hne)
   have HG : Hid (M.good ((bts t).take (M.dec (bts t)).2) = M.ok (M.dec (bts t))) := hide (M.good_head hne)
   have hds := M.dec_size hne
   have ht4 : (bts t).length ≤ 4 := by rw [hbt, List.length_take]; omega
   clear HO hh hu hbt hcp2 hdt hr hne
   obtain ⟨⟨p, k⟩, hd⟩ : ∃ d, M.dec (bts t) = d := ⟨_, rfl⟩
   rw [hd] at HO2 hru HA HG hds
   simp only at HO2 hru HA HG hds
   clear hd
   obtain ⟨hk1, hkt, hk4⟩ := hds
   rw [hts] at hkt
   have hkl : ((bts t).take k).length = k := by rw [List.length_take, hts]; omega
   obtain ⟨a1, c1, hrd3, hkc, hnil1, hcut⟩ := cut_to (T := 63) Tryz.underlying63 elemSize63 W (some ⟨w.heap.size + 1, 0, none⟩) (cB (bts t)) t.size cap k hkt hcap (fun e => by cases e) (by rw [hsz] at hrd; exact hrd)
   rw [show (cB (bts t)).take k = cB ((bts t).take k) by simp [cB]] at hrd3
   by_cases h10 : p = 10
   · have e10 : ((p : Int) == 10) = true := by rw [h10]; rfl
     have HN : Hid (o = none) := hide (by rw [HO2.out, if_pos (.inl h10)])
     clear HO2 HA HG hcut hrd3 h10
     go_enter Tryz.func144, Tryz.ntmps144
     go_wp2_with fail
     refine hcp.mono ?_
     rintro e w1 ⟨rfl, rfl⟩
     go_wp2_with fail
     refine hru.mono ?_
     rintro e w2 ⟨v1, v2, rfl, ho1, ho2, hb2⟩
     obtain ⟨ao1, cap1, rfl, _, _, hrd1⟩ := ho1.rd
     obtain ⟨b1, off1, rfl, hcell⟩ := hrd1.rune 0 (by simp)
     simp only [List.getElem_cons_zero] at hcell
     have hcell2 : w2.cell? ⟨b1, off1, none⟩ = some (.int .i32 (p : Int)) := hcell
     rw [cI_length] at ho1 ⊢
     rw [List.length_cons] at ho1 ⊢
     have el : (((r.length + 1 : Nat) : Int) == 0) = false := by rw [beq_eq_false_iff_ne]; omega
     clear ho1 ho2 hrd1
     replace hr0 := (hb2.block w.heap.size (by have := hbl.size; omega)).trans hr0
     have hb3 := nx hbb hb2
     clear hru hcp hrd hbl hb2 hbb
     obtain ⟨d0, d1, d2, d3⟩ := cells_four hr0
     have f0 := frozen_row hr0 0
     have f1 := frozen_row hr0 1
     have f2 := frozen_row hr0 2
     have f3 := frozen_row hr0 3
     go_wp2
     exact bodyPost_ret (v := .tuple #[tokV tz 0, .int .i64 0]) (by unfold tokV; simp [results, Tryz.results144, go_sem, d0, d1, d2, d3, tz]) rfl ⟨ansT_none HN.out, by first | (with_reducible exact hb3) | exact four_set hb3 _ _ _ _⟩
   · have e10 : ((p : Int) == 10) = false := by rw [beq_eq_false_iff_ne]; omega
     by_cases h92 : p = 92
     · have e92 : ((p : Int) == 92) = true := by rw [h92]; rfl
       have HN : Hid (o = none) := hide (by rw [HO2.out, if_pos (.inr h92)])
       clear HO2 HA HG hcut hrd3 h10 h92
       go_enter Tryz.func144, Tryz.ntmps144
       go_wp2_with fail
       refine hcp.mono ?_
       rintro e w1 ⟨rfl, rfl⟩
       go_wp2_with fail
       refine hru.mono ?_
       rintro e w2 ⟨v1, v2, rfl, ho1, ho2, hb2⟩
       obtain ⟨ao1, cap1, rfl, _, _, hrd1⟩ := ho1.rd
       obtain ⟨b1, off1, rfl, hcell⟩ := hrd1.rune 0 (by simp)
       simp only [List.getElem_cons_zero] at hcell
       have hcell2 : w2.cell? ⟨b1, off1, none⟩ = some (.int .i32 (p : Int)) := hcell
       rw [cI_length] at ho1 ⊢
       rw [List.length_cons] at ho1 ⊢
       have el : (((r.length + 1 : Nat) : Int) == 0) = false := by rw [beq_eq_false_iff_ne]; omega
       clear ho1 ho2 hrd1
       replace hr0 := (hb2.block w.heap.size (by have := hbl.size; omega)).trans hr0
       have hb3 := nx hbb hb2
       clear hru hcp hrd hbl hb2 hbb
       obtain ⟨d0, d1, d2, d3⟩ := cells_four hr0
       have f0 := frozen_row hr0 0
       have f1 := frozen_row hr0 1
       have f2 := frozen_row hr0 2
       have f3 := frozen_row hr0 3
       go_wp2
       exact bodyPost_ret (v := .tuple #[tokV tz 0, .int .i64 0]) (by unfold tokV; simp [results, Tryz.results144, go_sem, d0, d1, d2, d3, tz]) rfl ⟨ansT_none HN.out, by first | (with_reducible exact hb3) | exact four_set hb3 _ _ _ _⟩
     · have e92 : ((p : Int) == 92) = false := by rw [beq_eq_false_iff_ne]; omega
       cases hok : M.ok (p, k) with
       | true =>
         rw [hok] at HG
         have HN : Hid (o = some (⟨4, [], (p : Int)⟩, k + 1)) := hide (by rw [HO2.out, if_neg (fun h => h.elim h10 h92), if_pos hok])
         clear HO2 h10 h92 hok
         go_enter Tryz.func144, Tryz.ntmps144
         go_wp2_with fail
         refine hcp.mono ?_
         rintro e w1 ⟨rfl, rfl⟩
         go_wp2_with fail
         refine hru.mono ?_
         rintro e w2 ⟨v1, v2, rfl, ho1, ho2, hb2⟩
         obtain ⟨ao1, cap1, rfl, _, _, hrd1⟩ := ho1.rd
         obtain ⟨b1, off1, rfl, hcell⟩ := hrd1.rune 0 (by simp)
         simp only [List.getElem_cons_zero] at hcell
         have hcell2 : w2.cell? ⟨b1, off1, none⟩ = some (.int .i32 (p : Int)) := hcell
         rw [cI_length] at ho1 ⊢
         rw [List.length_cons] at ho1 ⊢
         have el : (((r.length + 1 : Nat) : Int) == 0) = false := by rw [beq_eq_false_iff_ne]; omega
         obtain ⟨ao2, cap2, rfl, _, _, hrd2⟩ := ho2.rd
         rw [cN_length] at ho2 ⊢
         have hat := at_any ao2 cap2 (M.sts (bts t)) (t.size : Int) 1 w2 (by have := M.pts_length (bts t); have := M.pts_le (bts t); omega) hrd2
         rw [HA.out] at hat
         clear ho1 ho2 hrd1 hrd2
         go_wp2_with fail
         refine hat.mono ?_
         rintro e w3 ⟨rfl, rfl⟩
         have hgd := good_any a1 c1 ((bts t).take k) (by rw [List.length_take]; omega) (by rw [hkl]; exact hkc) hnil1 w2 (htW.later hb2) (hrd3.later hb2)
         rw [hkl, HG.out] at hgd
         go_wp2_with fail
         refine hgd.mono ?_
         rintro e w3 ⟨rfl, hb4⟩
         replace hcell2 := cell_later hb4 hcell2
         replace hr0 := (hb4.block w.heap.size (by have := hbl.size; have := hb2.size; omega)).trans ((hb2.block w.heap.size (by have := hbl.size; omega)).trans hr0)
         have hb3 := nx (nx hbb hb2) hb4
         clear hru hcp hrd hbl hb2 hbb hb4 hgd hat hcell
         obtain ⟨d0, d1, d2, d3⟩ := cells_four hr0
         have f0 := frozen_row hr0 0
         have f1 := frozen_row hr0 1
         have f2 := frozen_row hr0 2
         have f3 := frozen_row hr0 3
         go_wp2
         exact bodyPost_ret (v := .tuple #[tokV ⟨4, [], (p : Int)⟩ 0, .int .i64 ((k + 1 : Nat) : Int)]) (by unfold tokV; simp [results, Tryz.results144, go_sem, d0, d1, d2, d3]; try omega) rfl ⟨ansT_some HN.out, four_set hb3 _ _ _ _⟩
       | false =>
         rw [hok] at HG
         have HN : Hid (o = none) := hide (by rw [HO2.out, if_neg (fun h => h.elim h10 h92), if_neg (by rw [hok]; decide)])
         clear HO2 h10 h92 hok
         go_enter Tryz.func144, Tryz.ntmps144
         go_wp2_with fail
         refine hcp.mono ?_
         rintro e w1 ⟨rfl, rfl⟩
         go_wp2_with fail
         refine hru.mono ?_
         rintro e w2 ⟨v1, v2, rfl, ho1, ho2, hb2⟩
         obtain ⟨ao1, cap1, rfl, _, _, hrd1⟩ := ho1.rd
         obtain ⟨b1, off1, rfl, hcell⟩ := hrd1.rune 0 (by simp)
         simp only [List.getElem_cons_zero] at hcell
         have hcell2 : w2.cell? ⟨b1, off1, none⟩ = some (.int .i32 (p : Int)) := hcell
         rw [cI_length] at ho1 ⊢
         rw [List.length_cons] at ho1 ⊢
         have el : (((r.length + 1 : Nat) : Int) == 0) = false := by rw [beq_eq_false_iff_ne]; omega
         obtain ⟨ao2, cap2, rfl, _, _, hrd2⟩ := ho2.rd
         rw [cN_length] at ho2 ⊢
         have hat := at_any ao2 cap2 (M.sts (bts t)) (t.size : Int) 1 w2 (by have := M.pts_length (bts t); have := M.pts_le (bts t); omega) hrd2
         rw [HA.out] at hat
         clear ho1 ho2 hrd1 hrd2
         go_wp2_with fail
         refine hat.mono ?_
         rintro e w3 ⟨rfl, rfl⟩
         have hgd := good_any a1 c1 ((bts t).take k) (by rw [List.length_take]; omega) (by rw [hkl]; exact hkc) hnil1 w2 (htW.later hb2) (hrd3.later hb2)
         rw [hkl, HG.out] at hgd
         go_wp2_with fail
         refine hgd.mono ?_
         rintro e w3 ⟨rfl, hb4⟩
         replace hcell2 := cell_later hb4 hcell2
         replace hr0 := (hb4.block w.heap.size (by have := hbl.size; have := hb2.size; omega)).trans ((hb2.block w.heap.size (by have := hbl.size; omega)).trans hr0)
         have hb3 := nx (nx hbb hb2) hb4
         clear hru hcp hrd hbl hb2 hbb hb4 hgd hat hcell
         obtain ⟨d0, d1, d2, d3⟩ := cells_four hr0
         have f0 := frozen_row hr0 0
         have f1 := frozen_row hr0 1
         have f2 := frozen_row hr0 2
         have f3 := frozen_row hr0 3
         go_wp2
         exact bodyPost_ret (v := .tuple #[tokV tz 0, .int .i64 0]) (by unfold tokV; simp [results, Tryz.results144, go_sem, d0, d1, d2, d3, tz]) rfl ⟨ansT_none HN.out, by first | (with_reducible exact hb3) | exact four_set hb3 _ _ _ _⟩
end Go.Proofs.YtgngaldoemopjaaGreatDoor
namespace Go.Proofs.YtgngaldoemopjaaGreatDoor
open Go.RowKit
theorem char_lex (s : ByteArray) (hs : s.size ≤ 100000) (h0 : 0 < s.size) (hh : (bts s).head? = some 39) (w : World) (ht : Tabs w) : Calls Tryz.prog 144 #[.string s] w fun e w' => AnsT (X.charL ((bts s).drop 1)) 0 e ∧ Below w.heap.size w w' := by
 by_cases hp : ∃ h, bts s = 39 :: 92 :: 117 :: 123 :: h
 · obtain ⟨h, e⟩ := hp
   exact char_one s hs h e w
 · exact char_two s hs h0 hh hp w ht
theorem next_cases (c : UInt8) (u : List UInt8) : X.nextL (c :: u) =
   if c = 10 then some (⟨7, [], 0⟩, 1) else if c = 36 then nameL u else if X.isD c = true then numL (c :: u) else if X.isL c = true then some (⟨8, (c :: u).takeWhile X.isI, 0⟩, ((c :: u).takeWhile X.isI).length)
   else if c = 34 then X.word u else if c = 39 then X.charL u else if c = 123 then propL u else markL c u := by
 unfold X.nextL nameL numL propL markL
 simp only [List.head?_cons, Option.some.injEq]
set_option maxRecDepth 100000 in
set_option maxHeartbeats 2000000 in
theorem first_lex (s : ByteArray) (hs : s.size ≤ 100000) (h0 : 0 < s.size) (w : World) (ht : Tabs w) : Calls Tryz.prog 110 #[.string s] w fun e w' => AnsT (X.nextL (bts s)) 0 e ∧ Below w.heap.size w w' := by
 have hl : 0 < (bts s).length := h0
 obtain ⟨c, u, hcu⟩ : ∃ c u, bts s = c :: u := by
   cases hb : bts s with
   | nil => rw [hb] at hl; cases hl
   | cons c u => exact ⟨c, u, rfl⟩
 have hx2 : ∀ h, s[0]'h = c := fun h => (idx_at (s := s) hl ((0 : Nat) : Int) rfl h).trans (by simp [hcu])
 have hdrop : (bts s).drop 1 = u := by rw [hcu]; rfl
 have htw := ht.later (al1 w room)
 have HU : Hid (X.nextL (bts s) = _) := hide ((congrArg X.nextL hcu).trans (next_cases c u))
 generalize X.nextL (bts s) = o at *
 have e10 : ((c.toNat : Int) == 10) = decide (c = 10) := u8_eq c 10
 have e36 : ((c.toNat : Int) == 36) = decide (c = 36) := u8_eq c 36
 have e34 : ((c.toNat : Int) == 34) = decide (c = 34) := u8_eq c 34
 have e39 : ((c.toNat : Int) == 39) = decide (c = 39) := u8_eq c 39
 have e123 : ((c.toNat : Int) == 123) = decide (c = 123) := u8_eq c 123
 have hdg := digit_any c (w.alloc room)
 have hlt := letter_any c (w.alloc room)
 by_cases h10 : c = 10
 · rw [decide_eq_true h10] at e10
   have HN : Hid (o = some (⟨7, [], 0⟩, 1)) := hide (by rw [HU.out, if_pos h10])
   clear HU hdg hlt h10 e36 e34 e39 e123 hcu hdrop
   go_enter Tryz.func110, Tryz.ntmps110
   go_wp2
   exact bodyPost_ret (v := .tuple #[tokV ⟨7, [], 0⟩ 0, .int .i64 ((1 : Nat) : Int)]) (by unfold tokV; simp [results, Tryz.results110, go_sem]) rfl ⟨ansT_some HN.out, al1 w _⟩
 rw [decide_eq_false h10] at e10
 rw [if_neg h10] at HU
 clear h10
 by_cases h36 : c = 36
 · rw [decide_eq_true h36] at e36
   rw [if_pos h36] at HU
   have hcall := name_lex s hs h0 (w.alloc room)
   rw [hdrop, ← HU.out] at hcall
   clear HU hdg hlt h36 e34 e39 e123 hcu hdrop
   go_enter Tryz.func110, Tryz.ntmps110
   go_wp2_with fail
   refine hcall.mono ?_
   rintro e w1 ⟨⟨t, n, rfl, hq1, hq2⟩, hb⟩
   obtain ⟨hr0, hbb⟩ := room_kept hb
   have HQ1 := hide hq1
   have HQ2 := hide hq2
   clear hb hq1 hq2 hcall
   obtain ⟨d0, d1, d2, d3⟩ := cells_four hr0
   have f0 := frozen_row hr0 0
   have f1 := frozen_row hr0 1
   have f2 := frozen_row hr0 2
   have f3 := frozen_row hr0 3
   unfold tokV
   go_wp2
   exact bodyPost_ret (v := .tuple #[tokV t 0, .int .i64 (n : Int)]) (by unfold tokV; simp [results, Tryz.results110, go_sem, d0, d1, d2, d3]) rfl ⟨⟨t, n, rfl, HQ1.out, HQ2.out⟩, four_set hbb _ _ _ _⟩
 rw [decide_eq_false h36] at e36
 rw [if_neg h36] at HU
 clear h36
 cases hd : X.isD c with
 | true =>
   rw [hd, if_pos rfl] at HU
   rw [hd] at hdg
   have hcall := number_lex s hs h0 (w.alloc room)
   rw [hcu, ← HU.out] at hcall
   clear HU hlt e34 e39 e123 hcu hdrop hd
   unfold U8 at hdg
   go_enter Tryz.func110, Tryz.ntmps110
   go_wp2_with fail
   refine hdg.mono ?_
   rintro e w1 ⟨rfl, rfl⟩
   go_wp2_with fail
   refine hcall.mono ?_
   rintro e w1 ⟨⟨t, n, rfl, hq1, hq2⟩, hb⟩
   obtain ⟨hr0, hbb⟩ := room_kept hb
   have HQ1 := hide hq1
   have HQ2 := hide hq2
   clear hb hq1 hq2 hcall
   obtain ⟨d0, d1, d2, d3⟩ := cells_four hr0
   have f0 := frozen_row hr0 0
   have f1 := frozen_row hr0 1
   have f2 := frozen_row hr0 2
   have f3 := frozen_row hr0 3
   unfold tokV
   go_wp2
   exact bodyPost_ret (v := .tuple #[tokV t 0, .int .i64 (n : Int)]) (by unfold tokV; simp [results, Tryz.results110, go_sem, d0, d1, d2, d3]) rfl ⟨⟨t, n, rfl, HQ1.out, HQ2.out⟩, four_set hbb _ _ _ _⟩
 | false =>
   rw [hd, if_neg (by decide)] at HU
   rw [hd] at hdg
   clear hd
   cases hL : X.isL c with
   | true =>
     rw [hL, if_pos rfl] at HU
     rw [hL] at hlt
     have hcall := ident_lex s hs (w.alloc room)
     rw [hcu, ← HU.out] at hcall
     clear HU e34 e39 e123 hcu hdrop hL
     unfold U8 at hdg hlt
     go_enter Tryz.func110, Tryz.ntmps110
     go_wp2_with fail
     refine hdg.mono ?_
     rintro e w1 ⟨rfl, rfl⟩
     go_wp2_with fail
     refine hlt.mono ?_
     rintro e w1 ⟨rfl, rfl⟩
     go_wp2_with fail
     refine hcall.mono ?_
     rintro e w1 ⟨⟨t, n, rfl, hq1, hq2⟩, hb⟩
     obtain ⟨hr0, hbb⟩ := room_kept hb
     have HQ1 := hide hq1
     have HQ2 := hide hq2
     clear hb hq1 hq2 hcall
     obtain ⟨d0, d1, d2, d3⟩ := cells_four hr0
     have f0 := frozen_row hr0 0
     have f1 := frozen_row hr0 1
     have f2 := frozen_row hr0 2
     have f3 := frozen_row hr0 3
     unfold tokV
     go_wp2
     exact bodyPost_ret (v := .tuple #[tokV t 0, .int .i64 (n : Int)]) (by unfold tokV; simp [results, Tryz.results110, go_sem, d0, d1, d2, d3]) rfl ⟨⟨t, n, rfl, HQ1.out, HQ2.out⟩, four_set hbb _ _ _ _⟩
   | false =>
     rw [hL, if_neg (by decide)] at HU
     rw [hL] at hlt
     clear hL
     unfold U8 at hdg hlt
     by_cases h34 : c = 34
     · rw [decide_eq_true h34] at e34
       rw [if_pos h34] at HU
       have hcall := word_lex s hs h0 (w.alloc room) htw
       rw [hdrop, ← HU.out] at hcall
       clear HU h34 e39 e123 hcu hdrop
       go_enter Tryz.func110, Tryz.ntmps110
       go_wp2_with fail
       refine hdg.mono ?_
       rintro e w1 ⟨rfl, rfl⟩
       go_wp2_with fail
       refine hlt.mono ?_
       rintro e w1 ⟨rfl, rfl⟩
       go_wp2_with fail
       refine hcall.mono ?_
       rintro e w1 ⟨⟨t, n, rfl, hq1, hq2⟩, hb⟩
       obtain ⟨hr0, hbb⟩ := room_kept hb
       have HQ1 := hide hq1
       have HQ2 := hide hq2
       clear hb hq1 hq2 hcall
       obtain ⟨d0, d1, d2, d3⟩ := cells_four hr0
       have f0 := frozen_row hr0 0
       have f1 := frozen_row hr0 1
       have f2 := frozen_row hr0 2
       have f3 := frozen_row hr0 3
       unfold tokV
       go_wp2
       exact bodyPost_ret (v := .tuple #[tokV t 0, .int .i64 (n : Int)]) (by unfold tokV; simp [results, Tryz.results110, go_sem, d0, d1, d2, d3]) rfl ⟨⟨t, n, rfl, HQ1.out, HQ2.out⟩, four_set hbb _ _ _ _⟩
     rw [decide_eq_false h34] at e34
     rw [if_neg h34] at HU
     clear h34
     by_cases h39 : c = 39
     · rw [decide_eq_true h39] at e39
       rw [if_pos h39] at HU
       have hcall := char_lex s hs h0 (by rw [hcu, h39]; rfl) (w.alloc room) htw
       rw [hdrop, ← HU.out] at hcall
       clear HU h39 e123 hcu hdrop
       go_enter Tryz.func110, Tryz.ntmps110
       go_wp2_with fail
       refine hdg.mono ?_
       rintro e w1 ⟨rfl, rfl⟩
       go_wp2_with fail
       refine hlt.mono ?_
       rintro e w1 ⟨rfl, rfl⟩
       go_wp2_with fail
       refine hcall.mono ?_
       rintro e w1 ⟨⟨t, n, rfl, hq1, hq2⟩, hb⟩
       obtain ⟨hr0, hbb⟩ := room_kept hb
       have HQ1 := hide hq1
       have HQ2 := hide hq2
       clear hb hq1 hq2 hcall
       obtain ⟨d0, d1, d2, d3⟩ := cells_four hr0
       have f0 := frozen_row hr0 0
       have f1 := frozen_row hr0 1
       have f2 := frozen_row hr0 2
       have f3 := frozen_row hr0 3
       unfold tokV
       go_wp2
       exact bodyPost_ret (v := .tuple #[tokV t 0, .int .i64 (n : Int)]) (by unfold tokV; simp [results, Tryz.results110, go_sem, d0, d1, d2, d3]) rfl ⟨⟨t, n, rfl, HQ1.out, HQ2.out⟩, four_set hbb _ _ _ _⟩
     rw [decide_eq_false h39] at e39
     rw [if_neg h39] at HU
     clear h39
     by_cases h123 : c = 123
     · rw [decide_eq_true h123] at e123
       rw [if_pos h123] at HU
       have hcall := prop_lex s hs h0 (w.alloc room)
       rw [hdrop, ← HU.out] at hcall
       clear HU h123 hcu hdrop
       go_enter Tryz.func110, Tryz.ntmps110
       go_wp2_with fail
       refine hdg.mono ?_
       rintro e w1 ⟨rfl, rfl⟩
       go_wp2_with fail
       refine hlt.mono ?_
       rintro e w1 ⟨rfl, rfl⟩
       go_wp2_with fail
       refine hcall.mono ?_
       rintro e w1 ⟨⟨t, n, rfl, hq1, hq2⟩, hb⟩
       obtain ⟨hr0, hbb⟩ := room_kept hb
       have HQ1 := hide hq1
       have HQ2 := hide hq2
       clear hb hq1 hq2 hcall
       obtain ⟨d0, d1, d2, d3⟩ := cells_four hr0
       have f0 := frozen_row hr0 0
       have f1 := frozen_row hr0 1
       have f2 := frozen_row hr0 2
       have f3 := frozen_row hr0 3
       unfold tokV
       go_wp2
       exact bodyPost_ret (v := .tuple #[tokV t 0, .int .i64 (n : Int)]) (by unfold tokV; simp [results, Tryz.results110, go_sem, d0, d1, d2, d3]) rfl ⟨⟨t, n, rfl, HQ1.out, HQ2.out⟩, four_set hbb _ _ _ _⟩
     rw [decide_eq_false h123] at e123
     rw [if_neg h123] at HU
     have hcall := mark_lex s hs c u hcu (w.alloc room)
     rw [← HU.out] at hcall
     clear HU h123 hcu hdrop
     go_enter Tryz.func110, Tryz.ntmps110
     go_wp2_with fail
     refine hdg.mono ?_
     rintro e w1 ⟨rfl, rfl⟩
     go_wp2_with fail
     refine hlt.mono ?_
     rintro e w1 ⟨rfl, rfl⟩
     go_wp2_with fail
     refine hcall.mono ?_
     rintro e w1 ⟨⟨t, n, rfl, hq1, hq2⟩, hb⟩
     obtain ⟨hr0, hbb⟩ := room_kept hb
     have HQ1 := hide hq1
     have HQ2 := hide hq2
     clear hb hq1 hq2 hcall
     obtain ⟨d0, d1, d2, d3⟩ := cells_four hr0
     have f0 := frozen_row hr0 0
     have f1 := frozen_row hr0 1
     have f2 := frozen_row hr0 2
     have f3 := frozen_row hr0 3
     unfold tokV
     go_wp2
     exact bodyPost_ret (v := .tuple #[tokV t 0, .int .i64 (n : Int)]) (by unfold tokV; simp [results, Tryz.results110, go_sem, d0, d1, d2, d3]) rfl ⟨⟨t, n, rfl, HQ1.out, HQ2.out⟩, four_set hbb _ _ _ _⟩
end Go.Proofs.YtgngaldoemopjaaGreatDoor
namespace Go.Proofs.YtgngaldoemopjaaGreatDoor
open Go.RowKit Go.Shelf
attribute [local go_sem] Oper.semAt_some
abbrev Yk := (X.Tk × Nat) × Nat
def encK (x : Yk) : Array Value := #[tokV x.1.1 x.1.2, .int .i64 (x.2 : Int)]
def okY (l : List (X.Tk × Nat)) : List Yk := l.map fun p => (p, 0)
theorem okY_snoc (l : List (X.Tk × Nat)) (p : X.Tk × Nat) : okY (l ++ [p]) = okY l ++ [(p, 0)] := by simp [okY]
theorem okY_length (l : List (X.Tk × Nat)) : (okY l).length = l.length := by simp [okY]
def Told (b : List UInt8) (ys : List Yk) : Prop := (∃ l, X.scan 0 b = .ok l ∧ ys = okY l) ∨ ∃ at_ pre, X.scan 0 b = .error at_ ∧ ys = okY pre ++ [((tz, at_), 60)]
def Part (b : List UInt8) (ys : List Yk) : Prop := ∀ p0 x, ys = p0 ++ [x] → x.2 ≠ 0 → X.scan 0 b = .error x.1.2 ∧ x.2 = 60
theorem part_ok {b : List UInt8} {p0 : List Yk} {p : X.Tk × Nat} : Part b (p0 ++ [(p, 0)]) := by
 intro q x h hx
 have := List.append_inj_right' h rfl
 cases this
 exact absurd rfl hx
theorem part_err {b : List UInt8} {p0 : List Yk} {at_ : Nat} (h : X.scan 0 b = .error at_) : Part b (p0 ++ [((tz, at_), 60)]) := by
 intro q x e _
 have := List.append_inj_right' e rfl
 cases this
 exact ⟨h, rfl⟩
theorem emap_emap {α β γ : Type} (f : α → β) (g : β → γ) (e : Except Nat α) : (e.map f).map g = e.map (fun x => g (f x)) := by cases e <;> rfl
theorem emap_id {α : Type} (e : Except Nat α) : e.map (fun x => x) = e := by cases e <;> rfl
structure StK (Bn : Nat) (s : ByteArray) (W : World) : Prop where
 box : W.cell? ⟨Bn, 0, none⟩ = some (.string s)
 tabs : Tabs W
theorem StK.kept {Bn : Nat} {s : ByteArray} {W W' : World} {row : Option Nat} (h : StK Bn s W) (hg : W.grownBy W' row) (hr : ∀ r, row = some r → ∃ o : Obj, W.heap[r]? = some o ∧ o.isCells = false) : StK Bn s W' :=
 ⟨cell_kept h.box hg hr, ⟨fun c hc => cell_kept (h.tabs.1 c hc) hg hr, fun i hi => ⟨cell_kept (h.tabs.2 i hi).1 hg hr, cell_kept (h.tabs.2 i hi).2 hg hr⟩⟩⟩
set_option maxRecDepth 100000 in
set_option maxHeartbeats 2000000 in
theorem sgn1_in (n : Nat) (hn : 1 ≤ n) (l Bn : Nat) (s : ByteArray) (hs : s.size ≤ 100000) (J Jx : List Yk → World → Prop)
   (W : World) (hJ : AbidesFrom W.heap.size J)
   (hY : ∀ pre x W1, J pre W1 → pre.length < s.size + 1 → YieldAt Fence.wide (n - 1) Tryz.prog l (encK x) W1 fun e W' =>
     (e = .returned (.bool true) ∧ J (pre ++ [x]) W' ∧ (StK Bn s W1 → StK Bn s W')) ∨ (e = .returned (.bool false) ∧ Jx (pre ++ [x]) W'))
   (hS : StK Bn s W) (h0 : J [] W) :
   CallsIn Fence.wide n Tryz.prog 108 #[.func (.yield l) #[] #[], .pointer (some ⟨Bn, 0, none⟩)] W fun e W' => (∃ v, e = .returned v) ∧
     ((∃ ys, Told (bts s) ys ∧ J ys W') ∨ (∃ pre, Part (bts s) pre ∧ Jx pre W')) := by
 have hbox := hS.box
 have hB := behind_any s hs 0 (Nat.zero_le _) W
 have hnext : ∀ (pre : List (X.Tk × Nat)) (x : Yk) (wr w2 : World), J (okY pre) wr → StK Bn s wr → Below wr.heap.size wr w2 → pre.length ≤ s.size → ∃ fn tmps assign body, (Instr.yield l (encK x)).run Tryz.prog w2 = .ok (.round l fn tmps assign body) w2 ∧
     RoundIn Fence.wide (n - 1) Tryz.prog l fn tmps assign body w2 (fun e W' => (e = .returned (.bool true) ∧ J (okY pre ++ [x]) W' ∧ StK Bn s W') ∨ (e = .returned (.bool false) ∧ Jx (okY pre ++ [x]) W')) := by
   intro pre x wr w2 hJs hSs hb2 hpl
   have hg2 := grown_below hb2 none
   have hJ2 : J (okY pre) w2 := hJ _ wr w2 none hJs hg2 (fun r e => by cases e)
   have hS2 : StK Bn s w2 := hSs.kept hg2 (fun r e => by cases e)
   obtain ⟨fn, tmps, assign, body, hy, hR⟩ := hY (okY pre) x w2 hJ2 (by rw [okY_length]; omega)
   refine ⟨fn, tmps, assign, body, hy, hR.mono ?_⟩
   rintro e W' (⟨h1, h2, h3⟩ | h)
   · exact .inl ⟨h1, h2, h3 hS2⟩
   · exact .inr h
 clear hY
 refine callsIn_of_wp Tryz.func108 rfl trivial ?_ rfl
 simp only [Tryz.ntmps108, List.size_toArray, List.length_cons, List.length_nil, Nat.reduceAdd, Nat.reduceSub, Array.replicate_succ, Array.replicate_zero, List.push_toArray, List.append_toArray, List.nil_append, List.cons_append]
 gi_wp2_with (refine ⟨trivial, ?_⟩; gi_at_call 109; refine (callsIn_wide.2 hB).mono ?_; rintro e w1 ⟨⟨j0, rfl, hj0⟩, rfl⟩)
 clear hB
 gi_loopw [3] (fun p wr => ∃ (pre : List (X.Tk × Nat)) (i : Nat), p = .int .i64 (i : Int) ∧ i ≤ s.size ∧ pre.length ≤ i ∧ Hid (X.scan 0 (bts s) = (X.scan i ((bts s).drop i)).map fun m => pre ++ m) ∧ Hid (i < s.size → ∃ c u, (bts s).drop i = c :: u ∧ X.blank c = false ∧ c ≠ 35) ∧ J (okY pre) wr ∧ StK Bn s wr)
   (fun p _ => s.size - (intOf p).toNat)
 case atStart =>
   obtain ⟨h1, h2, h3, h4⟩ := hj0
   exact ⟨[], j0, rfl, h2, Nat.zero_le _, hide (by rw [List.drop_zero] at h3; rw [h3]; simp only [List.nil_append]; exact (emap_id _).symm), hide h4, h0, hS⟩
 case round =>
   obtain ⟨pre, i, rfl, hi, hpl, HP, HC, hJs, hSs⟩ := hrel
   have hbox := hSs.box
   by_cases hlt : i < s.size
   · obtain ⟨c, u, hcu, hbl, h35⟩ := HC.out hlt
     have hex := extract_size s i
     have hF := first_lex (s.extract i s.size) (by omega) (by omega) wr hSs.tabs
     rw [bts_extract, hcu] at hF
     clear hex
     cases hnx : X.nextL (c :: u) with
     | none =>
       have HE : Hid (X.scan 0 (bts s) = .error i) := hide (by rw [HP.out, hcu, X.scan_none _ _ hbl h35 hnx]; rfl)
       rw [hnx] at hF
       clear HP HC hcu hbl h35 hnx
       gi_wp2_with (refine ⟨trivial, ?_⟩; gi_at_call 110; refine (callsIn_wide.2 hF).mono ?_; rintro e w2 ⟨⟨t, k, rfl, _, hk⟩, hb2⟩; obtain rfl := (hk rfl); unfold tokV; (obtain ⟨fn, tmps, assign, body, hy, hR⟩ := hnext pre ((tz, i), 60) wr (w2.alloc (.cells #[.int .i64 (t.kind : Int), .int .i64 0, .string ⟨t.text.toArray⟩, .int .i32 t.r] 111)) hJs hSs (hb2.alloc hb2.size _) (by omega)); unfold encK tokV tz at hy; simp only [show ((0 : Nat) : Int) = 0 from rfl, show ((60 : Nat) : Int) = 60 from rfl] at hy)
       refine hR.mono ?_
       rintro e W3 (⟨rfl, hJ3, hS3⟩ | ⟨rfl, hJx3⟩)
       · gi_wp2
         refine bodyPost_ret (results_none rfl _ _ _) rfl ?_
         exact ⟨⟨_, rfl⟩, .inl ⟨_, .inr ⟨i, pre, HE.out, rfl⟩, hJ3⟩⟩
       · gi_wp2
         refine bodyPost_ret (results_none rfl _ _ _) rfl ?_
         exact ⟨⟨_, rfl⟩, .inr ⟨_, part_err HE.out, hJx3⟩⟩
     | some q =>
       obtain ⟨t, k⟩ := q
       obtain ⟨hk1, hk2⟩ := X.next_size hnx
       have hk3 : i + k ≤ s.size := by
         rw [← hcu, List.length_drop, bts_len] at hk2
         omega
       have HQ : Hid (X.scan 0 (bts s) = (X.scan (i + k) ((bts s).drop (i + k))).map fun m => (pre ++ [(t, i)]) ++ m) := hide (by
         rw [HP.out, hcu, X.scan_some _ _ hbl h35 hnx, emap_emap, ← hcu, List.drop_drop]
         congr 1
         funext m
         simp)
       have e0 : ((k : Int) == 0) = false := by rw [beq_eq_false_iff_ne]; omega
       rw [hnx] at hF
       clear HP HC hcu hbl h35 hnx hk2
       gi_wp2_with (refine ⟨trivial, ?_⟩; gi_at_call 110; refine (callsIn_wide.2 hF).mono ?_; rintro e w2 ⟨⟨t', k', he, hk, _⟩, hb2⟩; (have h1 : t' = t := (hk _ rfl).1); (have h2 : k' = k := (hk _ rfl).2); rw [h1, h2] at he; clear h1 h2 hk; subst he; unfold tokV; (obtain ⟨fn, tmps, assign, body, hy, hR⟩ := hnext pre ((t, i), 0) wr (w2.alloc (.cells #[.int .i64 (t.kind : Int), .int .i64 (i : Int), .string ⟨t.text.toArray⟩, .int .i32 t.r] 111)) hJs hSs (hb2.alloc hb2.size _) (by omega)); unfold encK tokV at hy; simp only [show ((0 : Nat) : Int) = 0 from rfl] at hy)
       refine hR.mono ?_
       rintro e W3 (⟨rfl, hJ3, hS3⟩ | ⟨rfl, hJx3⟩)
       · have hbox3 := hS3.box
         have hB := behind_any s hs (i + k) hk3 W3
         gi_wp2_with (refine ⟨trivial, ?_⟩; gi_at_call 109; refine (callsIn_wide.2 hB).mono ?_; rintro e w1 ⟨⟨j, rfl, hj⟩, rfl⟩)
         obtain ⟨h1, h2, h3, h4⟩ := hj
         go_roundw
         case rel => exact ⟨pre ++ [(t, i)], j, by go_num, h2, by simp; omega, hide (by rw [HQ.out, h3]), hide h4, by rw [okY_snoc]; exact hJ3, hS3⟩
         case measure => simp [intOf]; omega
       · gi_wp2
         refine bodyPost_ret (results_none rfl _ _ _) rfl ?_
         exact ⟨⟨_, rfl⟩, .inr ⟨_, part_ok, hJx3⟩⟩
   · obtain rfl : i = s.size := by omega
     have HE : Hid (X.scan 0 (bts s) = .ok (pre ++ [(tz, s.size)])) := hide (by
       have hd : (bts s).drop s.size = [] := List.drop_eq_nil_of_le (by rw [bts_len]; exact Nat.le_refl _)
       rw [HP.out, hd, X.scan_nil]
       rfl)
     clear HP HC
     obtain ⟨fn, tmps, assign, body, hy, hR⟩ := hnext pre ((tz, s.size), 0) wr wr hJs hSs (Below.refl _ _) (by omega)
     unfold encK tokV tz at hy
     simp only [show ((0 : Nat) : Int) = 0 from rfl] at hy
     gi_wp2
     refine hR.mono ?_
     rintro e W3 (⟨rfl, hJ3, hS3⟩ | ⟨rfl, hJx3⟩)
     · gi_wp2
       go_end0
       exact ⟨⟨_, rfl⟩, .inl ⟨_, .inl ⟨_, HE.out, (okY_snoc _ _).symm⟩, hJ3⟩⟩
     · gi_wp2
       go_end0
       exact ⟨⟨_, rfl⟩, .inr ⟨_, part_ok, hJx3⟩⟩
set_option maxHeartbeats 1000000 in
theorem sgn_in (n : Nat) (s : ByteArray) (w : World) :
   CallsIn Fence.wide n Tryz.prog 81 #[.string s] w fun e w' => e = .returned (.func (.func 108) #[] #[.pointer (some ⟨w.heap.size, 0, none⟩)]) ∧ w' = w.alloc (.cells #[.string s] 9) := by
 refine callsIn_of_wp Tryz.func81 rfl trivial ?_ rfl
 simp only [Tryz.ntmps81, List.size_toArray, List.length_cons, List.length_nil, Nat.reduceAdd, Nat.reduceSub, Array.replicate_succ, Array.replicate_zero, List.push_toArray, List.append_toArray, List.nil_append, List.cons_append]
 gi_wp2
 go_ret
 exact ⟨rfl, rfl⟩
theorem sgn_stops (n : Nat) (hn : 1 ≤ n) (Bn : Nat) (s : ByteArray) (hs : s.size ≤ 100000) (w : World) (hS : StK Bn s w) :
   SeqStopsK Fence.wide n Tryz.prog 108 #[.pointer (some ⟨Bn, 0, none⟩)] encK (fun A B => StK Bn s A → StK Bn s B) (Told (bts s)) (Part (bts s)) (s.size + 1) w := fun l J Jx W hW hJ _ hY h0 =>
 sgn1_in n hn l Bn s hs J Jx W hJ hY (hS.kept (grown_below hW none) (fun r e => by cases e)) h0
end Go.Proofs.YtgngaldoemopjaaGreatDoor
namespace Go.Proofs.YtgngaldoemopjaaGreatDoor
open Go.RowKit Go.Shelf
theorem upon_round {o : Oper} {a : Act} {K K' : Act → World → Prop} {Q : Exit → Act → World → Prop} {l n : Nat} (h : ∀ a w, K a w → K' a w) (r : Result Next) (hr : o.upon Tryz.prog a K Q r) : o.uponIn (Fence.wide.inRound l) n Tryz.prog a K' Q r := by
 cases r with
 | ok x w' =>
   cases x with
   | value v => exact h _ _ hr
   | skip => exact h _ _ hr
   | defer d => exact h _ _ hr
   | enter f args =>
     refine ⟨fun hd => (by cases hd), CallsIn.inRound l (callsIn_wide.2 ?_)⟩
     refine Calls.mono hr ?_
     intro e w'' he
     cases e with
     | returned v => exact h _ _ he
     | panicked c => exact he
     | outgrown => exact he
   | row row args =>
     refine ⟨fun hd => (by cases hd), ?_⟩
     intro c cs _
     obtain ⟨v, w'', h1, h2⟩ := hr c cs
     exact ⟨v, w'', h _ _ h1, stepsIn_wide.2 h2⟩
   | _ => exact (hr : False).elim
 | halt x w' =>
   cases x with
   | panic v => exact hr
   | _ => exact (hr : False).elim
def plainOps (ops : Array Oper) : Bool := ops.toList.all fun o => match o.op with | .defer _ => false | _ => true
theorem plainOps_at {ops : Array Oper} (h : plainOps ops = true) {i : Nat} {o : Oper} (hi : ops[i]? = some o) : ∀ c, o.op ≠ .defer c := by
 intro c hc
 have := List.all_eq_true.1 h o (by rw [← Array.getElem?_toList] at hi; exact List.mem_of_getElem? hi)
 rw [hc] at this
 cases this
theorem any_round {ops : Array Oper} {Q : Exit → Act → World → Prop} {l n : Nat} (hp : plainOps ops = true) (hQ : ¬ LetsOut Q) : ∀ (fuel : Nat) (listed : Array Bool) (a : Act) (w : World), wpAny Tryz.prog .any ops Q fuel listed a w → wpAnyIn (Fence.wide.inRound l) n Tryz.prog .any ops Q fuel listed a w
 | 0, _, _, _, h => h
 | fuel + 1, listed, a, w, h => by
   refine ⟨h.1, fun i hi => ?_⟩
   have h2 := h.2 i hi
   unfold wpOp at h2
   unfold wpOpIn
   cases ho : ops[i]? with
   | none =>
     rw [ho] at h2
     exact any_round hp hQ fuel _ _ _ h2
   | some o =>
     rw [ho] at h2
     simp only at h2 ⊢
     by_cases hw : Region.wanted o (yielded ops a.tmps) = true
     · rw [if_pos hw] at h2 ⊢
       rcases h2 with h2 | h2
       · refine ⟨fun _ _ => trivial, ?_⟩
         rw [Oper.semAt_eq _ _ _ (plainOps_at hp ho)]
         exact upon_round (fun a w h => any_round hp hQ fuel _ a w h) _ h2
       · exact absurd h2.2 hQ
     · rw [if_neg hw] at h2 ⊢
       exact ⟨fun _ _ => trivial, any_round hp hQ fuel _ _ _ h2⟩
theorem Reg.startR {id : Nat} {ops : Array Oper} {Q : Exit → Act → World → Prop} {a : Act} {B l n : Nat} {w : World} (hm : Tryz.prog.follows .mixedOrders = true) (hp : plainOps ops = true) (hQ : ¬ LetsOut Q) (h : Reg.G Tryz.prog ops Q a B ops.size [] [] w.drew) :
   (Code.region id ops true).wpIn (Fence.wide.inRound l) n Tryz.prog Q a w :=
 wpIn_region_any hm (any_round hp hQ _ _ _ _ (wpAny_of_held _ _ _ _ h))
def Reg.Br (P : Program) (ops : Array Oper) (Q : Exit → Act → World → Prop) (a : Act) (B fuel : Nat) (ks : List Nat) (l : List (Nat × Value)) (w : World) (i : Nat) : Prop :=
 wpOp P ops Q i (fun a' w' => Below B w w' ∧ wpAnyH P .any ops Q (fun w' => Below B w w') fuel ((Reg.lst ops.size ks).setIfInBounds i true) a' w') (Reg.ov a l) w
section
variable {P : Program} {ops : Array Oper} {Q : Exit → Act → World → Prop} {a : Act} {B fuel : Nat} {ks : List Nat} {l : List (Nat × Value)} {w : World}
theorem Reg.brV (i : Nat) (o : Oper) (d : Nat) (hi : ops[i]? = some o) (hd : o.dst = some d) (hb : Reg.inB a l = true) (hw : Reg.wantB ops a l o = true)
   (h : ∃ v w' B', (execOp (Reg.ev a l) o).run P w = .ok (.value v) w' ∧ B ≤ B' ∧ Below B w w' ∧ Reg.G P ops Q a B' fuel (i :: ks) ((d, v) :: l) w') : Reg.Br P ops Q a B fuel ks l w i := by
 obtain ⟨v, w', B', hrun, hBB, hbl, hg⟩ := h
 unfold Reg.Br wpOp
 simp only [hi]
 rw [if_pos (Reg.wanted_of ops a l o hb hw)]
 refine .inl ?_
 unfold Oper.wp
 rw [Reg.ov_eval a l hb, hrun]
 simp only [Oper.upon, hd]
 exact ⟨hbl, Reg.mono_held (fun x hx => hbl.trans (hx.mono hBB)) _ _ _ _ hg⟩
theorem Reg.brN (i : Nat) (o : Oper) (hi : ops[i]? = some o) (hd : o.dst = none) (hb : Reg.inB a l = true) (hw : Reg.wantB ops a l o = true)
   (h : ∃ w' B', (execOp (Reg.ev a l) o).run P w = .ok .skip w' ∧ B ≤ B' ∧ Below B w w' ∧ Reg.G P ops Q a B' fuel (i :: ks) l w') : Reg.Br P ops Q a B fuel ks l w i := by
 obtain ⟨w', B', hrun, hBB, hbl, hg⟩ := h
 unfold Reg.Br wpOp
 simp only [hi]
 rw [if_pos (Reg.wanted_of ops a l o hb hw)]
 refine .inl ?_
 unfold Oper.wp
 rw [Reg.ov_eval a l hb, hrun]
 simp only [Oper.upon, hd]
 exact ⟨hbl, Reg.mono_held (fun x hx => hbl.trans (hx.mono hBB)) _ _ _ _ hg⟩
theorem Reg.one (i : Nat) (hr : Region.ready .any ops (Reg.lst ops.size ks) = [i]) (h : Reg.Br P ops Q a B fuel ks l w i) : Reg.G P ops Q a B (fuel + 1) ks l w :=
 wpAnyH_all hr (by simp) fun j hj => by
   obtain rfl : j = i := by simpa using hj
   exact h
theorem Reg.two (i k : Nat) (hr : Region.ready .any ops (Reg.lst ops.size ks) = [i, k]) (h : Reg.Br P ops Q a B fuel ks l w i) (h2 : Reg.Br P ops Q a B fuel ks l w k) : Reg.G P ops Q a B (fuel + 1) ks l w :=
 wpAnyH_all hr (by simp) fun j hj => by
   rcases (by simpa using hj : j = i ∨ j = k) with rfl | rfl
   · exact h
   · exact h2
end
theorem Reg.ld1 {P : Program} {w : World} {ρ : Operand → Value} {o : Oper} {ty : TypeId} {x : Operand} {a : Addr} {v : Value} (hop : o.op = .load ty x) (hx : ρ x = .pointer (some a)) (hc : w.cell? a = some v) (hagg : (isAgg ty).run P w = .ok false w) : (execOp ρ o).run P w = .ok (.value v) w := by
 obtain ⟨dst, op, type, pos, after, guard⟩ := o
 simp only at hop
 subst hop
 simp [execOp, hx, Instr.loadAt, Instr.sureAddr, loadVar, Sem.run_bind, hagg, hc, Result.andThen]
theorem Reg.st1 {P : Program} {w : World} {ρ : Operand → Value} {o : Oper} {ty : TypeId} {x y : Operand} {b off : Nat} {u v : Value} (hop : o.op = .store ty x y) (hx : ρ x = .pointer (some ⟨b, off, none⟩)) (hy : ρ y = v) (hc : w.cell? ⟨b, off, none⟩ = some u) (hf : w.frozen? ⟨b, off, none⟩ = false) (h1 : (∃ k n, v = .int k n) ∨ ∃ ao n c, v = .slice ao n c) (hsz : (sizeOf ty).run P w = .ok 1 w) : (execOp ρ o).run P w = .ok .skip (w.setCell ⟨b, off, none⟩ v) := by
 obtain ⟨dst, op, type, pos, after, guard⟩ := o
 simp only at hop
 subst hop
 have hs : (Instr.storeAt ty (.pointer (some ⟨b, off, none⟩)) v).run P w = .ok () (w.setCell ⟨b, off, none⟩ v) := by
   rcases h1 with ⟨k, n, rfl⟩ | ⟨ao, n, c, rfl⟩ <;> simp [Instr.storeAt, Instr.sureAddr, storeVar, Sem.run_bind, hsz, hc, hf, Result.andThen, go_sem]
 simp [execOp, hx, hy, hs, Result.andThen]
end Go.Proofs.YtgngaldoemopjaaGreatDoor
