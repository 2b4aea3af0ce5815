/- ChainGone. -/
import Derived.Test.YtbeihgjonhgfmaaGreatDoorChl
namespace Go.Proofs.YtbeihgjonhgfmaaGreatDoor
open Go.RowKit Go.Shelf Go.Maps
attribute [local go_sem] Oper.semAt_some
namespace C
def gpar (i : Nat) : Tx := if i = 0 then [] else lg 98 (i - 1)
def grow_ : Nat → Row
  | 0 => []
  | i + 1 => put (grow_ i) (lg 98 i) (gpar i)
theorem grow_len : ∀ i, (grow_ i).length ≤ i
  | 0 => by simp [grow_]
  | i + 1 => by
    have h1 := len_put (grow_ i) (lg 98 i) (gpar i)
    have h2 := grow_len i
    unfold grow_
    omega
theorem gg_T : ∀ i, i < 6 → G.isT (lg 98 i) = true := by decide +kernel
theorem gpar_T {i : Nat} (h : i < 6) : gpar i = [] ∨ G.isT (gpar i) = true := by
  unfold gpar
  split
  · exact .inl rfl
  · exact .inr (gg_T _ (by omega))
theorem gone_under : ∀ k, k < 7 → 1 < k → ∀ x, x < k → (under (grow_ k) (lg 98 x)).length = k - 1 - x := by decide +kernel
theorem gone_has : ∀ k, k < 7 → 1 < k → ∀ x, x < k → has (grow_ k) (lg 98 x) = true := by decide +kernel
def gspec (c : List Tx × Nat) (i x : Nat) : Bool := if i = x then c.2 == 240 else if x < i then c == ([], 110) else c.2 == 0 && c.1.length == i + 1
theorem gone_spec : ∀ k, k < 7 → 1 < k → ∀ x, x < k → ∀ i, i < k → gspec (chain (del (grow_ k) (lg 98 x)) (lg 98 i)) i x = true := by decide +kernel
set_option maxRecDepth 100000 in
set_option maxHeartbeats 2000000 in
theorem gone_any (n which : UInt8) (w : World) (hA : AF w) : Calls Tryz.prog 8 #[U8 n, U8 which] w fun e W' => e = .returned (.bool true) ∧ Below w.heap.size w W' := by
  have hz := AF.pos hA
  have hes := elemSize30
  obtain ⟨i0, hi0, hz0, hz1, hz2⟩ := info_parts9 info9N
  have hkn := known_any w hA
  have hm := n.toNat_lt
  have hbk := which.toNat_lt
  obtain ⟨k, hk⟩ : ∃ k, k = n.toNat % 5 + 2 := ⟨_, rfl⟩
  have hk6 : k ≤ 6 := by omega
  have hk2 : 2 ≤ k := by omega
  have e1 : ((n.toNat : Int) % 5) + 2 = (k : Int) := by omega
  have HK := hide hk
  have HA := hide hA
  clear hk hA
  unfold U8 at *
  go_enter Tryz.func8, Tryz.ntmps8
  go_wp2_with fail
  refine hkn.mono ?_
  rintro e w1 ⟨rfl, b1⟩
  have hnew := new_any w1
  clear hkn
  go_wp2_with fail
  refine hnew.mono ?_
  rintro e w2 hn2
  have f2 := FB.new hn2
  obtain ⟨rfl, _, b2⟩ := hn2
  have hs1 := b1.size
  have hs2 := b2.size
  clear hnew
  go_wp2
  clear e1
  go_loopw [7, 8] (fun v u wr => ∃ i : Nat, u = .int .i64 (i : Int) ∧ i ≤ k ∧ OwnN wr w2.heap.size v (lgs 98 i) ∧ FB w1.heap.size wr w1.heap.size (grow_ i) ∧ Below w1.heap.size w1 wr ∧ w2.heap.size ≤ wr.heap.size) (fun _ u _ => k - (intOf u).toNat)
  case atStart => exact ⟨0, rfl, by omega, ownN_nil _ _, f2, b2, Nat.le_refl _⟩
  case round =>
    obtain ⟨i, rfl, hi, hO, hF, hb, hsz⟩ := hrel
    by_cases hlt : i < k
    · have hcv := cv1 wr (97 + (i : Int))
      have hx : (97 + (i : Int)).toNat.toUInt8 = (97 + i).toUInt8 := by congr 1
      have a3 := al1 wr (.cells #[.int .u8 (97 + (i : Int))] 5)
      obtain ⟨W3, hW3⟩ : ∃ W3, wr.alloc (.cells #[.int .u8 (97 + (i : Int))] 5) = W3 := ⟨_, rfl⟩
      rw [hx] at hcv
      rw [hW3] at hcv a3
      have hca : (⟨#[98]⟩ : ByteArray) ++ ⟨#[(97 + i).toUInt8]⟩ = ⟨(lg 98 i).toArray⟩ := add_tx [98] [(97 + i).toUInt8]
      have hcs : (⟨(lg 98 i).toArray⟩ : ByteArray).size = 2 := rfl
      have hO3 := hO.later a3
      have hF3 := hF.later a3
      have hb3 : Below w1.heap.size w1 W3 := hb.trans (a3.mono (by omega))
      have HLS := hide (lgs_succ 98 i)
      have hll := lgs_len 98 i
      have hll2 := lgs_len 98 (i + 1)
      have rO : W3.ownsRow w2.heap.size 9 1 u7 (lgs 98 i).length ((lgs 98 i).map tx) := hO3
      have hz3 : w2.heap.size ≤ W3.heap.size := Nat.le_trans hsz a3.size
      have HO3 := hide hO3
      have HF3 := hide hF3
      have HB3 := hide hb3
      have hgp := gpar_T (i := i) (by omega)
      have hgt := gg_T i (by omega)
      have HGR : Hid (grow_ (i + 1) = put (grow_ i) (lg 98 i) (gpar i)) := hide rfl
      have hgl := grow_len i
      have hset := fun W (f : FB w1.heap.size W w1.heap.size (grow_ i)) (b : Below w1.heap.size w1 W) => setB_ok f b.size (lg 98 i) (gpar i) hgt hgp (by omega) (HA.out.later (b1.trans (b.mono hs1)))
      have HGP : Hid (gpar i = if i = 0 then [] else lg 98 (i - 1)) := hide rfl
      clear hO hF hb a3 hO3 hF3 hb3 hx hgp hgt
      generalize (97 + i).toUInt8 = cc at *
      obtain ⟨t, ht⟩ : ∃ t, t = lg 98 i := ⟨_, rfl⟩
      rw [← ht] at hca hcs hset HLS HGR
      have HTT := hide ht
      clear ht
      by_cases hi1 : i = 0
      · rw [if_pos hi1] at HGP
        rw [HGP.out] at hset
        have hd0 : decide ((0 : Int) < (i : Int)) = false := decide_eq_false (by omega)
        have hd1 : decide (0 < i) = false := decide_eq_false (by omega)
        have hile : i ≤ 0 := by omega
        clear hi1
        go_wp2_with (at_builtin; refine wpList_append_own_at _ rfl _ _ 30 rfl w2.heap.size 9 i0 (.string ByteArray.empty) 1 16 Tryz.underlying30 hi0 hz0 hz1 hz2 rfl (by decide) _ _ _ rfl (rO.alloc _) ⟨W3.heap.size, 0, none⟩ 1 1 [.string ⟨t.toArray⟩] rfl rfl (one_new _ _ _) (by simp [Value.oneCell']) (by unfold maxLen; omega) (by omega) (by simp; omega) ?_; intro v9 w9 hown9 hgrow9 _ hat9; have fin := own_app HO3.out (by omega) hown9 hgrow9; have finF := HF3.out.app HO3.out hgrow9; rw [← HLS.out] at fin; obtain ⟨ao9, cap9, rfl, _, r9⟩ := fin.1.rd; obtain ⟨b9, of9, rfl, rb9⟩ := RdT.at r9 (by omega); have c9i := rb9.2 i (by omega); rw [lgs_get] at c9i; rw [← HTT.out] at c9i; have FN := hide fin; have FF := hide finF; have RB9 := hide rb9; clear fin finF r9 rb9 hown9 hgrow9 hat9)
        have fw : Below w1.heap.size w1 w9 := HB3.out.trans (FN.out.2.mono hs2)
        refine (hset w9 FF.out fw).mono ?_
        rintro e w10 ⟨rfl, f10, b10, k10⟩
        have FN10 := hide (k10.1 _ _ _ FN.out.1)
        have hsz9 := FN.out.2.size
        have hsz10 := b10.size
        clear hset
        go_wp2
        go_roundw
        case rel => exact ⟨i + 1, by go_num, by omega, by have h := FN10.out; rw [hll2] at h; exact h, by rw [HGR.out, HGP.out]; exact f10, fw.trans b10, by omega⟩
        case measure => simp [intOf]; omega
      · rw [if_neg hi1] at HGP
        have hip : 0 < i := by omega
        rw [HGP.out] at hset
        clear hi1
        go_wp2_with (at_builtin; refine wpList_append_own_at _ rfl _ _ 30 rfl w2.heap.size 9 i0 (.string ByteArray.empty) 1 16 Tryz.underlying30 hi0 hz0 hz1 hz2 rfl (by decide) _ _ _ rfl (rO.alloc _) ⟨W3.heap.size, 0, none⟩ 1 1 [.string ⟨t.toArray⟩] rfl rfl (one_new _ _ _) (by simp [Value.oneCell']) (by unfold maxLen; omega) (by omega) (by simp; omega) ?_; intro v9 w9 hown9 hgrow9 _ hat9; have fin := own_app HO3.out (by omega) hown9 hgrow9; have finF := HF3.out.app HO3.out hgrow9; rw [← HLS.out] at fin; obtain ⟨ao9, cap9, rfl, _, r9⟩ := fin.1.rd; obtain ⟨b9, of9, rfl, rb9⟩ := RdT.at r9 (by omega); have c9i := rb9.2 i (by omega); have c9j := rb9.2 (i - 1) (by omega); rw [lgs_get] at c9i c9j; rw [← HTT.out] at c9i; have FN := hide fin; have FF := hide finF; have RB9 := hide rb9; clear fin finF r9 rb9 hown9 hgrow9 hat9)
        have fw : Below w1.heap.size w1 w9 := HB3.out.trans (FN.out.2.mono hs2)
        refine (hset w9 FF.out fw).mono ?_
        rintro e w10 ⟨rfl, f10, b10, k10⟩
        have FN10 := hide (k10.1 _ _ _ FN.out.1)
        have hsz9 := FN.out.2.size
        have hsz10 := b10.size
        clear hset
        go_wp2
        go_roundw
        case rel => exact ⟨i + 1, by go_num, by omega, by have h := FN10.out; rw [hll2] at h; exact h, by rw [HGR.out, HGP.out]; exact f10, fw.trans b10, by omega⟩
        case measure => simp [intOf]; omega
    · obtain rfl : i = k := by omega
      obtain ⟨ao, cap, rfl, hcap, hrd⟩ := hO.rd
      obtain ⟨lb, lof, rfl, hrb⟩ := RdT.at hrd (by rw [lgs_len]; omega)
      obtain ⟨x, hx⟩ : ∃ x, x = which.toNat % i := ⟨_, rfl⟩
      have hxl : x < i := by rw [hx]; exact Nat.mod_lt _ (by omega)
      have e2 : ((which.toNat : Int) % (i : Int)) = (x : Int) := by rw [hx]; omega
      have e3 : ((which.toNat : Int).tmod (i : Int)) = (x : Int) := by rw [hx]; exact (Int.ofNat_tmod _ _).symm
      have hun := underB hF (by have := grow_len i; omega) (HA.out.later (b1.trans (hb.mono hs1))) (lg 98 x)
      have hul := gone_under i (by omega) (by omega) x hxl
      have hgh := gone_has i (by omega) (by omega) x hxl
      have HSP := hide (fun j hj => gone_spec i (by omega) (by omega) x hxl j hj)
      have hdr := fun W (f : FB w1.heap.size W w1.heap.size (grow_ i)) (b : Below w1.heap.size w1 W) => dropB f b.size (lg 98 x) (by show 2 ≤ _; omega)
      rw [hgh] at hdr
      simp only [if_true] at hdr
      have hll := lgs_len 98 i
      have hcx := hrb.2 x (by omega)
      rw [lgs_get] at hcx
      have HRT := hide hrb.rdt
      have HF := hide hF
      have HB := hide hb
      have hdl := len_del (grow_ i) (lg 98 x)
      have hgl := grow_len i
      clear hO hF hb hrd hrb hcap b2 f2 hlt hx hgh
      generalize grow_ i = LL at *
      generalize lg 98 x = q at *
      simp only [hll]
      unfold tx at *
      go_wp2_with fail
      refine hun.mono ?_
      rintro e w4 ⟨v4, rfl, o4, b4⟩
      have hc4 := cell_later b4 hcx
      have HF4 := hide (HF.out.later b4)
      have HB4 : Hid (Below w1.heap.size w1 w4) := hide (HB.out.trans (b4.mono HB.out.size))
      obtain ⟨ao4, cap4, rfl, _, _⟩ := o4.rd
      have HRT4 := hide (HRT.out.later b4)
      rw [hul]
      have e5 : ((i - 1 - x : Nat) : Int) = (i : Int) - 1 - (x : Int) := by omega
      have hd4 := hdr w4 HF4.out HB4.out
      clear hun o4 b4 hcx HF HB HRT hdr hul
      go_wp2_with fail
      refine hd4.mono ?_
      rintro e w5 ⟨rfl, f5, b5, k5⟩
      have HF5 := hide f5
      have HB5 : Hid (Below w1.heap.size w1 w5) := hide (HB4.out.trans b5)
      have HR5 : Hid (RdB w5 lb lof (lgs 98 i)) := hide (RdB.of (k5.2 _ _ HRT4.out) (by rw [lgs_len]; omega))
      clear hd4 f5 b5 k5 hc4 HF4 HB4 HRT4 e2 e3 e5
      go_wp2
      go_loopw [11] (fun u wr => ∃ j : Nat, u = .int .i64 (j : Int) ∧ j ≤ i ∧ Hid (FB w1.heap.size wr w1.heap.size (del LL q)) ∧ Hid (RdB wr lb lof (lgs 98 i)) ∧ Hid (Below w1.heap.size w1 wr)) (fun u _ => i - (intOf u).toNat)
      case atStart => exact ⟨0, rfl, by omega, HF5, HR5, HB5⟩
      case round =>
        obtain ⟨j, rfl, hj, HFj, HRj, HBj⟩ := hrel
        by_cases hlt : j < i
        · have hcj := HRj.out.2 j (by omega)
          rw [lgs_get] at hcj
          have hch := chainB HFj.out (lg 98 j) (by show 2 ≤ _; omega) (HA.out.later (b1.trans (HBj.out.mono hs1)))
          have hsp := HSP.out j hlt
          unfold gspec at hsp
          unfold AnsH at hch
          generalize chain (del LL q) (lg 98 j) = cj at hch hsp
          obtain ⟨c1, c2⟩ := cj
          simp only at hch hsp
          have htl : (lg 98 j).length = 2 := rfl
          generalize lg 98 j = t at *
          unfold tx at *
          by_cases hjx : j = x
          · rw [if_pos hjx] at hsp
            obtain rfl : c2 = 240 := by simpa using hsp
            simp only [show ((240 : Nat) : Int) = 240 from rfl] at hch
            have g1 : ((j : Int) == (x : Int)) = true := by rw [hjx]; simp
            clear hsp hjx htl
            go_wp2_with fail
            refine hch.mono ?_
            rintro e w6 ⟨⟨v6, rfl, o6⟩, b6⟩
            have b7 : Below w1.heap.size w1 w6 := HBj.out.trans (b6.mono HBj.out.size)
            obtain ⟨ao6, cap6, rfl, _, _⟩ := o6.rd
            have HN6 : Hid (FB w1.heap.size w6 w1.heap.size (del LL q) ∧ RdB w6 lb lof (lgs 98 i) ∧ Below w1.heap.size w1 w6) := hide ⟨HFj.out.later b6, RdB.of (HRj.out.rdt.later b6) (by rw [lgs_len]; omega), b7⟩
            clear hch o6 b6 b7 HSP
            go_wp2
            go_roundw
            case rel => exact ⟨j + 1, by go_num, by omega, hide HN6.out.1, hide HN6.out.2.1, hide HN6.out.2.2⟩
            case measure => simp [intOf]; omega
          · rw [if_neg hjx] at hsp
            have g1 : ((j : Int) == (x : Int)) = false := by simp; omega
            by_cases hxj : x < j
            · rw [if_pos hxj] at hsp
              obtain ⟨rfl, rfl⟩ : c1 = [] ∧ c2 = 110 := by simpa using hsp
              simp only [show ((110 : Nat) : Int) = 110 from rfl] at hch
              clear hsp hjx htl
              go_wp2_with fail
              refine hch.mono ?_
              rintro e w6 ⟨⟨v6, rfl, o6⟩, b6⟩
              have b7 : Below w1.heap.size w1 w6 := HBj.out.trans (b6.mono HBj.out.size)
              obtain ⟨ao6, cap6, rfl, _, _⟩ := o6.rd
              have HN6 : Hid (FB w1.heap.size w6 w1.heap.size (del LL q) ∧ RdB w6 lb lof (lgs 98 i) ∧ Below w1.heap.size w1 w6) := hide ⟨HFj.out.later b6, RdB.of (HRj.out.rdt.later b6) (by rw [lgs_len]; omega), b7⟩
              clear hch o6 b6 b7 HSP
              simp only [List.length_nil]
              go_wp2
              go_roundw
              case rel => exact ⟨j + 1, by go_num, by omega, hide HN6.out.1, hide HN6.out.2.1, hide HN6.out.2.2⟩
              case measure => simp [intOf]; omega
            · rw [if_neg hxj] at hsp
              obtain ⟨rfl, hc1⟩ : c2 = 0 ∧ c1.length = j + 1 := by simpa using hsp
              simp only [show ((0 : Nat) : Int) = 0 from rfl] at hch
              clear hsp hjx htl
              go_wp2_with fail
              refine hch.mono ?_
              rintro e w6 ⟨⟨v6, rfl, o6⟩, b6⟩
              have b7 : Below w1.heap.size w1 w6 := HBj.out.trans (b6.mono HBj.out.size)
              obtain ⟨ao6, cap6, rfl, _, _⟩ := o6.rd
              have HN6 : Hid (FB w1.heap.size w6 w1.heap.size (del LL q) ∧ RdB w6 lb lof (lgs 98 i) ∧ Below w1.heap.size w1 w6) := hide ⟨HFj.out.later b6, RdB.of (HRj.out.rdt.later b6) (by rw [lgs_len]; omega), b7⟩
              clear hch o6 b6 b7 HSP
              rw [hc1]
              clear hc1
              go_wp2
              go_roundw
              case rel => exact ⟨j + 1, by go_num, by omega, hide HN6.out.1, hide HN6.out.2.1, hide HN6.out.2.2⟩
              case measure => simp [intOf]; omega
        · clear HSP
          go_wp2
          go_ret
          exact ⟨rfl, b1.trans (HBj.out.mono hs1)⟩
end C
end Go.Proofs.YtbeihgjonhgfmaaGreatDoor
