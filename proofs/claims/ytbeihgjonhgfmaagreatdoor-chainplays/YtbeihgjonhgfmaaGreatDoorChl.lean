/- ChainLong. -/
import Derived.Laws.BytesArg
import Derived.Test.YtbeihgjonhgfmaaGreatDoorChk
namespace Go.Proofs.YtbeihgjonhgfmaaGreatDoor
open Go.RowKit Go.Shelf Go.Maps
attribute [local go_sem] Oper.semAt_some
namespace C
/-- A text of two letters. -/
def lg (c : UInt8) (i : Nat) : Tx := [c, (97 + i).toUInt8]
def lgs (c : UInt8) (i : Nat) : List Tx := (List.range i).map (lg c)
theorem lgs_succ (c : UInt8) (i : Nat) : lgs c (i + 1) = lgs c i ++ [lg c i] := by unfold lgs; rw [List.range_succ, List.map_append]; rfl
theorem lgs_len (c : UInt8) (i : Nat) : (lgs c i).length = i := by unfold lgs; simp
theorem lgs_get (c : UInt8) {i j : Nat} (h : j < (lgs c i).length) : (lgs c i)[j] = lg c j := by simp [lgs]
theorem cv1 (W : World) (x : Int) : (convert 54 9 (.slice (some ⟨W.heap.size, 0, none⟩) 1 1)).run Tryz.prog (W.alloc (.cells #[.int .u8 x] 5)) = .ok (.string ⟨#[x.toNat.toUInt8]⟩) (W.alloc (.cells #[.int .u8 x] 5)) := by
  have hn := heap_alloc_new W (.cells #[.int .u8 x] 5)
  generalize W.alloc (.cells #[.int .u8 x] 5) = W1 at *
  have := run_convert_bytes_arg (P := Tryz.prog) (w := W1) 54 5 Tryz.underlying54 Tryz.underlying5 W.heap.size 0 1 1 [x] rfl (fun i hi => by
    obtain rfl : i = 0 := by simp at hi; omega
    simp [World.cell?, hn]) 9 Tryz.underlying9
  rw [this]
  simp [strOfNums]
def lpar (k b : Nat) (bend : Bool) (i : Nat) : Tx := if i + 1 < k then lg 97 (i + 1) else if bend then lg 97 b else []
def lrow (k b : Nat) (bend : Bool) : Nat → Row
  | 0 => []
  | i + 1 => put (lrow k b bend i) (lg 97 i) (lpar k b bend i)
theorem lrow_len (k b : Nat) (bend : Bool) : ∀ i, (lrow k b bend i).length ≤ i
  | 0 => by simp [lrow]
  | i + 1 => by
    have h1 := len_put (lrow k b bend i) (lg 97 i) (lpar k b bend i)
    have h2 := lrow_len k b bend i
    unfold lrow
    omega
theorem lg_T : ∀ i, i < 9 → G.isT (lg 97 i) = true := by decide +kernel
def lspec (c : List Tx × Nat) (k : Nat) (bend : Bool) : Bool := if 6 < k then c == ([], 112) else if bend then c == ([], 111) else c == (lgs 97 k, 0)
theorem long_spec : ∀ k, k < 10 → 0 < k → ∀ b, b < k → ∀ bend, lspec (chain (lrow k b bend k) (lg 97 0)) k bend = true := by decide +kernel
theorem lpar_T {k b : Nat} (bend : Bool) {i : Nat} (hk : k ≤ 9) (hb : b < k) : lpar k b bend i = [] ∨ G.isT (lpar k b bend i) = true := by
  unfold lpar
  split
  · exact .inr (lg_T _ (by omega))
  · split
    · exact .inr (lg_T _ (by omega))
    · exact .inl rfl
/-- A row of texts, at its place. -/
def RdB (w : World) (b off : Nat) (ss : List Tx) : Prop := b < w.heap.size ∧ ∀ i (h : i < ss.length), w.cell? ⟨b, off + i, none⟩ = some (tx ss[i])
theorem RdT.at {w : World} {ao : Option Addr} {ss : List Tx} (h : RdT w ao ss) (hn : 0 < ss.length) : ∃ b off, ao = some ⟨b, off, none⟩ ∧ RdB w b off ss := by
  obtain ⟨b, off, e, h1, _⟩ := h 0 hn
  refine ⟨b, off, e, h1, fun i hi => ?_⟩
  obtain ⟨b', off', e', _, h3⟩ := h i hi
  rw [e] at e'
  cases e'
  exact h3
theorem RdB.rdt {w : World} {b off : Nat} {ss : List Tx} (h : RdB w b off ss) : RdT w (some ⟨b, off, none⟩) ss := fun i hi => ⟨b, off, rfl, h.1, h.2 i hi⟩
theorem RdB.of {w : World} {b off : Nat} {ss : List Tx} (h : RdT w (some ⟨b, off, none⟩) ss) (hn : 0 < ss.length) : RdB w b off ss := by
  obtain ⟨b', off', e, h1⟩ := RdT.at h hn
  cases e
  exact h1
set_option maxRecDepth 100000 in
set_option maxHeartbeats 2000000 in
theorem long_any (n back : UInt8) (bend : Bool) (w : World) (hA : AF w) : Calls Tryz.prog 7 #[U8 n, U8 back, .bool bend] w fun e W' => e = .returned (.bool true) ∧ Below w.heap.size w W' := by
  have hz := AF.pos hA
  have hes := elemSize30
  obtain ⟨i0, hi0, hz0, hz1, hz2⟩ := info_parts9 info9N
  have hkn := known_any w hA
  have hm := n.toNat_lt
  have hbk := back.toNat_lt
  obtain ⟨k, hk⟩ : ∃ k, k = n.toNat % 9 + 1 := ⟨_, rfl⟩
  have hk9 : k ≤ 9 := by omega
  have hk1 : 1 ≤ k := by omega
  have e1 : ((n.toNat : Int) % 9) + 1 = (k : Int) := by omega
  have HK := hide hk
  have HA := hide hA
  clear hk hA
  unfold U8 at *
  go_enter Tryz.func7, Tryz.ntmps7
  go_wp2_with fail
  refine hkn.mono ?_
  rintro e w1 ⟨rfl, b1⟩
  have hnew := new_any w1
  clear hkn
  go_wp2_with fail
  refine hnew.mono ?_
  rintro e w2 hn2
  have f2 := FB.new hn2
  obtain ⟨rfl, _, b2⟩ := hn2
  have hs2 := b2.size
  clear hnew
  go_wp2
  clear e1
  go_loopw [9, 10] (fun v u wr => ∃ i : Nat, u = .int .i64 (i : Int) ∧ i ≤ k ∧ OwnN wr w2.heap.size v (lgs 97 i) ∧ FB w1.heap.size wr w1.heap.size [] ∧ Below w2.heap.size w2 wr) (fun _ u _ => k - (intOf u).toNat)
  case atStart => exact ⟨0, rfl, by omega, ownN_nil _ _, f2, Below.refl _ _⟩
  case round =>
    obtain ⟨i, rfl, hi, hO, hF, hb⟩ := hrel
    by_cases hlt : i < k
    · have hcv := cv1 wr (97 + (i : Int))
      have hx : (97 + (i : Int)).toNat.toUInt8 = (97 + i).toUInt8 := by congr 1
      have a3 := al1 wr (.cells #[.int .u8 (97 + (i : Int))] 5)
      obtain ⟨W3, hW3⟩ : ∃ W3, wr.alloc (.cells #[.int .u8 (97 + (i : Int))] 5) = W3 := ⟨_, rfl⟩
      rw [hx] at hcv
      rw [hW3] at hcv a3
      have hca : (⟨#[97]⟩ : ByteArray) ++ ⟨#[(97 + i).toUInt8]⟩ = ⟨(lg 97 i).toArray⟩ := add_tx [97] [(97 + i).toUInt8]
      have hcs : (⟨(lg 97 i).toArray⟩ : ByteArray).size = 2 := rfl
      have hO3 := hO.later a3
      have hF3 := hF.later a3
      have hb3 : Below w2.heap.size w2 W3 := hb.trans (a3.mono hb.size)
      have HLS := hide (lgs_succ 97 i)
      have hll := lgs_len 97 i
      have rO : W3.ownsRow w2.heap.size 9 1 u9 (lgs 97 i).length ((lgs 97 i).map tx) := hO3
      have hz3 := hb3.size
      generalize (lg 97 i) = t at *
      generalize (97 + i).toUInt8 = cc at *
      generalize lgs 97 i = ss at *
      have HO3 := hide hO3
      have HF3 := hide hF3
      have HB3 := hide hb3
      have HLL := hide hll
      have hll2 : ss.length ≤ 9 := by omega
      clear hO hF hb a3 hO3 hF3 hb3 hx hll
      go_wp2_with (at_builtin; refine wpList_append_own_at _ rfl _ _ 30 rfl w2.heap.size 9 i0 (.string ByteArray.empty) 1 16 Tryz.underlying30 hi0 hz0 hz1 hz2 rfl (by decide) _ _ _ rfl (rO.alloc _) ⟨W3.heap.size, 0, none⟩ 1 1 [.string ⟨t.toArray⟩] rfl rfl (one_new _ _ _) (by simp [Value.oneCell']) (by unfold maxLen; omega) (by omega) (by simp; omega) ?_; intro v9 w9 hown9 hgrow9 _ hat9; obtain ⟨g9, cap9, rfl⟩ := ownsRow_succ hown9)
      have fin := own_app HO3.out (by omega) hown9 hgrow9
      have finF := HF3.out.app HO3.out hgrow9
      go_roundw
      case rel => exact ⟨i + 1, by go_num, by omega, by rw [HLS.out]; exact fin.1, finF, HB3.out.trans fin.2⟩
      case measure => simp [intOf]; omega
    · obtain rfl : i = k := by omega
      obtain ⟨ao, cap, rfl, hcap, hrd⟩ := hO.rd
      obtain ⟨lb, lof, rfl, hrb⟩ := RdT.at hrd (by rw [lgs_len]; omega)
      have hb1 : Below w1.heap.size w1 wr := (b2.trans (hb.mono hs2))
      obtain ⟨bm, hbm⟩ : ∃ bm, bm = back.toNat % i := ⟨_, rfl⟩
      have hbl : bm < i := by rw [hbm]; exact Nat.mod_lt _ (by omega)
      have e2 : ((back.toNat : Int) % (i : Int)) = (bm : Int) := by rw [hbm]; omega
      have e3 : ((back.toNat : Int).tmod (i : Int)) = (bm : Int) := by rw [hbm]; exact (Int.ofNat_tmod _ _).symm
      have HSP := hide (long_spec i (by omega) (by omega) bm hbl bend)
      have HRB := hide hrb
      have HF := hide hF
      have HB1 := hide hb1
      have hz1 := b1.size
      have HB0 := hide b1
      rw [lgs_len]
      clear hO hF hb hrd hrb hb1 hcap b2 f2 hlt hbm
      go_wp2
      go_loopw [11] (fun u wr => ∃ j : Nat, u = .int .i64 (j : Int) ∧ j ≤ i ∧ Hid (FB w1.heap.size wr w1.heap.size (lrow i bm bend j)) ∧ Hid (RdB wr lb lof (lgs 97 i)) ∧ Hid (Below w1.heap.size w1 wr)) (fun u _ => i - (intOf u).toNat)
      case atStart => exact ⟨0, rfl, by omega, HF, HRB, HB1⟩
      case round =>
        obtain ⟨j, rfl, hj, HFj, HRj, HBj⟩ := hrel
        have hll := lgs_len 97 i
        by_cases hlt : j < i
        · have hcj := HRj.out.2 j (by omega)
          rw [lgs_get] at hcj
          have hset := setB_ok HFj.out HBj.out.size (lg 97 j) (lpar i bm bend j) (lg_T j (by omega)) (lpar_T bend hk9 hbl) (by have := lrow_len i bm bend j; omega) (HA.out.later (HB0.out.trans (HBj.out.mono hz1)))
          have HLR : Hid (lrow i bm bend (j + 1) = put (lrow i bm bend j) (lg 97 j) (lpar i bm bend j)) := hide rfl
          have HPE : Hid (lpar i bm bend j = if j + 1 < i then lg 97 (j + 1) else if bend then lg 97 bm else []) := hide rfl
          have hcn := fun h => HRj.out.2 (j + 1) h
          have hcb := HRj.out.2 bm (by omega)
          rw [lgs_get] at hcb
          simp only [lgs_get] at hcn
          clear hll
          by_cases hn1 : j + 1 < i
          · have hcn1 := hcn (by rw [lgs_len]; exact hn1)
            rw [if_pos hn1] at HPE
            rw [HPE.out] at hset
            clear hcn hcb HSP
            generalize lg 97 (j + 1) = q at *
            generalize lg 97 j = t at *
            unfold tx at *
            go_wp2_with fail
            refine hset.mono ?_
            rintro e w5 ⟨rfl, f5, b5, k5⟩
            clear hset
            go_wp2
            go_roundw
            case rel => exact ⟨j + 1, by go_num, by omega, hide (by rw [HLR.out, HPE.out]; exact f5), hide (RdB.of (k5.2 _ _ HRj.out.rdt) (by rw [lgs_len]; omega)), hide (HBj.out.trans b5)⟩
            case measure => simp [intOf]; omega
          · rw [if_neg hn1] at HPE
            cases bend with
            | true =>
              rw [if_pos rfl] at HPE
              rw [HPE.out] at hset
              clear hcn HSP
              generalize lg 97 bm = q at *
              generalize lg 97 j = t at *
              unfold tx at *
              go_wp2_with fail
              refine hset.mono ?_
              rintro e w5 ⟨rfl, f5, b5, k5⟩
              clear hset
              go_wp2
              go_roundw
              case rel => exact ⟨j + 1, by go_num, by omega, hide (by rw [HLR.out, HPE.out]; exact f5), hide (RdB.of (k5.2 _ _ HRj.out.rdt) (by rw [lgs_len]; omega)), hide (HBj.out.trans b5)⟩
              case measure => simp [intOf]; omega
            | false =>
              rw [if_neg (by simp)] at HPE
              rw [HPE.out] at hset
              clear hcn hcb HSP
              generalize lg 97 j = t at *
              unfold tx at *
              go_wp2_with fail
              refine hset.mono ?_
              rintro e w5 ⟨rfl, f5, b5, k5⟩
              clear hset
              go_wp2
              go_roundw
              case rel => exact ⟨j + 1, by go_num, by omega, hide (by rw [HLR.out, HPE.out]; exact f5), hide (RdB.of (k5.2 _ _ HRj.out.rdt) (by rw [lgs_len]; omega)), hide (HBj.out.trans b5)⟩
              case measure => simp [intOf]; omega
        · obtain rfl : j = i := by omega
          have hc0 := HRj.out.2 0 (by omega)
          rw [lgs_get] at hc0
          have hch := chainB HFj.out (lg 97 0) (by show 2 ≤ _; omega) (HA.out.later (HB0.out.trans (HBj.out.mono hz1)))
          have hrt := HRj.out.rdt
          unfold AnsH at hch
          have HRT := hide hrt
          have hsp := HSP.out
          unfold lspec at hsp
          have HLR : Hid (Below w.heap.size w wr) := hide (HB0.out.trans (HBj.out.mono hz1))
          simp only [Nat.add_zero] at hc0
          by_cases h6 : 6 < j
          · rw [if_pos h6] at hsp
            have hcx : chain (lrow j bm bend j) (lg 97 0) = ([], 112) := by simpa using hsp
            rw [hcx] at hch
            clear hsp HSP hcx hrt e2 e3 hll
            generalize lg 97 0 = t at *
            unfold tx at *
            go_wp2_with fail
            refine hch.mono ?_
            rintro e w5 ⟨⟨v5, rfl, o5⟩, b5⟩
            obtain ⟨ao5, cap5, rfl, _, _⟩ := o5.rd
            clear hch o5
            simp only [List.length_nil]
            go_wp2
            go_ret
            exact ⟨rfl, nx HLR.out b5⟩
          · rw [if_neg h6] at hsp
            cases bend with
            | true =>
              rw [if_pos rfl] at hsp
              have hcx : chain (lrow j bm true j) (lg 97 0) = ([], 111) := by simpa using hsp
              rw [hcx] at hch
              clear hsp HSP hcx hrt e2 e3 hll
              generalize lg 97 0 = t at *
              unfold tx at *
              go_wp2_with fail
              refine hch.mono ?_
              rintro e w5 ⟨⟨v5, rfl, o5⟩, b5⟩
              obtain ⟨ao5, cap5, rfl, _, _⟩ := o5.rd
              clear hch o5
              simp only [List.length_nil]
              go_wp2
              go_ret
              exact ⟨rfl, nx HLR.out b5⟩
            | false =>
              rw [if_neg (by simp)] at hsp
              have hcx : chain (lrow j bm false j) (lg 97 0) = (lgs 97 j, 0) := by simpa using hsp
              rw [hcx] at hch
              have htx := fun W (ao : Option Addr) (c1 : Nat) (hr : RdT W ao (lgs 97 j)) (hq : RdT W (some ⟨lb, lof, none⟩) (lgs 97 j)) => texts_any W ao (some ⟨lb, lof, none⟩) c1 cap (lgs 97 j) (lgs 97 j) hr hq (by omega)
              simp only [beq_self_eq_true, hll] at htx
              clear hsp HSP hcx hrt e2 e3
              generalize lg 97 0 = t at *
              unfold tx at *
              go_wp2_with fail
              refine hch.mono ?_
              rintro e w5 ⟨⟨v5, rfl, o5⟩, b5⟩
              obtain ⟨ao5, cap5, rfl, _, r5⟩ := o5.rd
              have ht5 := htx w5 ao5 cap5 r5 (HRT.out.later b5)
              clear hch o5 htx r5
              simp only [hll]
              go_wp2_with fail
              refine ht5.mono ?_
              rintro e w6 ⟨rfl, b6⟩
              clear ht5
              go_wp2
              go_ret
              exact ⟨rfl, nx HLR.out (nx b5 b6)⟩
end C
end Go.Proofs.YtbeihgjonhgfmaaGreatDoor
