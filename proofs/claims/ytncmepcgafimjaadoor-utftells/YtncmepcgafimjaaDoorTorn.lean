/- The walk of UtfTorn: it answers true whatever the two numbers and the place, and nothing that was there has turned. -/
import Derived.Test.YtncmepcgafimjaaDoorApp
namespace Go.Proofs.YtncmepcgafimjaaDoor
open Go.RowKit

theorem tmod_bounds (n : Int) : -127 ≤ Int.tmod n 128 ∧ Int.tmod n 128 ≤ 127 := by
  by_cases h : 0 ≤ n
  · rw [Int.tmod_eq_emod_of_nonneg h]; omega
  · have e := Int.neg_tmod (-n) 128
    rw [Int.neg_neg] at e
    rw [e, Int.tmod_eq_emod_of_nonneg (by omega)]
    omega

theorem Own.later {w wx : World} {B : Nat} {e : TypeId} {v : Value} {vs : List Value} (h : Own w B e v vs) (hb : Below w.heap.size w wx) : Own wx B e v vs :=
  World.ownsRow.kept h (grown_below hb none) (by cases v.ownBlock <;> simp)

/-- What a torn sequence is read as. -/
theorem torn_reads (cs : List UInt8) (k : Nat) (t : UInt8) (h : M.rs 0 cs = (List.range k).map (fun i => (i, 65533, false)) ++ [(k, t.toNat, true)]) :
    (M.pts cs).length = k + 1 ∧ (M.sts cs).length = k + 1 ∧ (∀ i, i < k → (M.pts cs)[i]? = some 65533) ∧ (M.pts cs)[k]? = some (t.toNat : Int) ∧ (∀ i, i ≤ k → (M.sts cs)[i]? = some (i : Int)) ∧ M.good cs = decide (k = 0) := by
  unfold M.pts M.sts M.good
  rw [h]
  refine ⟨by simp, by simp, fun i hi => by simp [List.getElem?_append, hi], by simp, fun i hi => ?_, ?_⟩
  · by_cases hik : i < k
    · simp [List.getElem?_append, hik]
    · obtain rfl : i = k := by omega
      simp
  · cases k with
    | zero => simp
    | succ k => simp [List.range_succ]

set_option maxHeartbeats 2000000 in
theorem torn_any (r : Int) (hr0 : -2147483648 ≤ r) (hr1 : r ≤ 2147483647) (cut : Int) (hc0 : 0 ≤ cut) (hc1 : cut ≤ 255) (tail : Int) (w : World) (ht : Tabs w) :
    Calls Tryd.prog 7 #[.int .i32 r, .int .u8 cut, .int .i32 tail] w fun e w' => e = .returned (.bool true) ∧ Below w.heap.size w w' := by
  obtain ⟨t, hT⟩ : ∃ t, Int.tmod tail 128 = t := ⟨_, rfl⟩
  have htb : -127 ≤ t ∧ t ≤ 127 := by rw [← hT]; exact tmod_bounds tail
  go_enter Tryd.func7, Tryd.ntmps7
  go_wp2_with fail
  refine (known_any w ht).mono ?_
  rintro e w1 ⟨rfl, hb1⟩
  go_wp2_with fail
  refine (bytes_any (some ⟨w1.heap.size, 0, none⟩) 1 [r] (by simp) (fun x hx => by rw [List.mem_singleton.1 hx]; exact ⟨hr0, hr1⟩) _ (rd_new _ _ _ _ _ rfl)).mono ?_
  rintro e w2 ⟨v2, rfl, ho2, hb2⟩
  rw [encs_one] at ho2
  have hB2 : Below w.heap.size w w2 := (hb1.alloc hb1.size _).trans (hb2.mono (by have := hb1.size; simp; omega))
  clear hb1 hb2
  obtain ⟨ao, cap, rfl, hcap, hn, hrd⟩ := ho2.rd
  rw [cB_length] at hcap ⊢
  have hL := M.enc_length r
  obtain ⟨k, hk⟩ : ∃ k : Nat, (k : Int) = cut % ((M.enc r).length : Int) := ⟨(cut % ((M.enc r).length : Int)).toNat, Int.toNat_of_nonneg (Int.emod_nonneg _ (by omega))⟩
  have hkl : k < (M.enc r).length := by have := Int.emod_lt_of_pos cut (show (0 : Int) < ((M.enc r).length : Int) by omega); omega
  obtain ⟨a1, c1, hr1, hk1, hn1, hs1⟩ := cut_to (T := 22) Tryd.underlying22 elemSize22 w2 ao (cB (M.enc r)) _ cap k (by omega) hcap hn hrd
  have hk' := hk.symm
  clear hk
  have HTN := fun (t : UInt8) (h : t.toNat < 128) => M.torn r k hkl t h
  generalize M.enc r = bs at *
  rw [show (cB bs).take k = cB (bs.take k) by simp [cB]] at hr1
  obtain ⟨xs, hxs⟩ : ∃ xs, xs = bs.take k := ⟨_, rfl⟩
  have HXL := hide (show k = xs.length by rw [hxs, List.length_take]; omega)
  have hxl : xs.length ≤ 4 := by rw [← HXL.out]; omega
  rw [← hxs] at hr1
  have HXS := hide hxs
  clear hxs
  go_wp2_with (first
    | (at_builtin; refine wpl_app8 rfl _ _ rfl w2.heap.size (.slice none 0 0) [] a1 xs k c1 HXL.out rfl rfl (own_nil _ _ _) (Nat.le_refl _) hr1 hn1 (by simp; omega) ?_; intro v3 w3 ho3 hb3)
    | (go_at_call 14; fail))
  refine (bytes_any (some ⟨w3.heap.size, 0, none⟩) 1 [t] (by simp) (fun x hx => by rw [List.mem_singleton.1 hx]; omega) _ (rd_new _ _ _ _ _ rfl)).mono ?_
  rintro e w4 ⟨v4, rfl, ho4, hb4⟩
  rw [encs_one] at ho4
  have hL4 := M.enc_length t
  have hb4' : Below w3.heap.size w3 w4 := ((Below.refl _ _).alloc (Nat.le_refl _) _).trans (hb4.mono (by simp))
  clear hb4
  have ho34 := ho3.later hb4'
  have hB4 : Below w2.heap.size w2 w4 := hb3.trans (hb4'.mono hb3.size)
  clear ho3
  obtain ⟨a4, c4, rfl, hc4, hn4, hr4⟩ := ho4.rd
  rw [cB_length] at hc4 ⊢
  have HY := fun (h : 0 ≤ t) => hide (M.enc_one h htb.2)
  generalize M.enc t = ys at *
  rw [List.nil_append] at ho34
  go_wp2_with (at_builtin; refine wpl_app8 rfl _ _ rfl w2.heap.size v3 xs a4 ys ys.length c4 rfl rfl rfl ho34 hB4.size hr4 hn4 (by omega) ?_; intro v5 w5 ho5 hb5; obtain ⟨cs, hcs⟩ : ∃ cs, cs = xs ++ ys := ⟨_, rfl⟩; have hcl : cs.length ≤ 8 := (by rw [hcs, List.length_append]; omega); rw [← hcs] at ho5; have HCS := hide hcs; clear hcs; obtain ⟨a5, c5, rfl, hc5, hn5, hr5⟩ := ho5.rd; rw [cB_length] at hc5 ⊢)
  · go_ret
    exact ⟨rfl, hB2.trans ((hB4.trans hb5).mono hB2.size)⟩
  have hpos : 0 ≤ t := by
    rw [← hT, Int.tmod_eq_emod_of_nonneg (by omega)]
    omega
  have hB5 : Below w.heap.size w w5 := hB2.trans ((hB4.trans hb5).mono hB2.size)
  have htr := torn_reads cs k t.toNat.toUInt8 (by
    rw [HCS.out, (HY hpos).out, HXS.out]
    exact HTN _ (by rw [Nat.toUInt8, UInt8.toNat_ofNat']; omega))
  rw [show ((t.toNat.toUInt8.toNat : Nat) : Int) = t by rw [Nat.toUInt8, UInt8.toNat_ofNat']; omega] at htr
  obtain ⟨hpl, hsl, hpi, hpk, hsi, hgd⟩ := htr
  have HGD := hide hgd
  refine (runes_any a5 c5 cs (by omega) hc5 hn5 w5 (ht.later hB5) hr5).mono ?_
  rintro e w6 ⟨v, u, rfl, hv, hu, hb6⟩
  obtain ⟨ap, cp, rfl, _, _, hrp⟩ := hv.rd
  obtain ⟨aq, cq, rfl, _, _, hrs⟩ := hu.rd
  rw [cI_length, cN_length, hpl, hsl]
  obtain ⟨bp, op, rfl, cpk⟩ := hrp.rune k (by omega)
  obtain ⟨bq, oq, rfl, cqk⟩ := hrs.num k (by omega)
  have cpi : ∀ i, i < k → w6.cell? ⟨bp, op + i, none⟩ = some (.int .i32 65533) := by
    intro i hi
    obtain ⟨b', o', e, h⟩ := hrp.rune i (by omega)
    cases e
    rw [h]
    have := hpi i hi
    rw [List.getElem?_eq_getElem (by omega)] at this
    rw [Option.some.inj this]
  have cqi : ∀ i, i ≤ k → w6.cell? ⟨bq, oq + i, none⟩ = some (.int .i64 (i : Int)) := by
    intro i hi
    obtain ⟨b', o', e, h⟩ := hrs.num i (by omega)
    cases e
    rw [h]
    have := hsi i hi
    rw [List.getElem?_eq_getElem (by omega)] at this
    rw [Option.some.inj this]
  have e1 : (M.pts cs)[k]'(by omega) = t := by
    rw [List.getElem?_eq_getElem (by omega)] at hpk
    exact Option.some.inj hpk
  rw [e1] at cpk
  have cqk' := cqi k (Nat.le_refl _)
  clear cqk hrp hrs hv hu hpl hsl hpi hpk hsi hgd e1 HTN HY HCS HXS HXL ho5 ho4 ho34 hr4 ho2 hrd hr1
  have hGd := good_any a5 c5 cs (by omega) hc5 hn5 w6 ((ht.later hB5).later hb6) (hr5.later hb6)
  rw [HGD.out] at hGd
  go_wp2
  go_loopw [12] (fun i wr => ∃ j : Nat, j ≤ k ∧ i = .int .i64 (j : Int) ∧ w6 = wr) (fun i _ => k - (intOf i).toNat)
  case atStart => exact ⟨0, Nat.zero_le _, rfl, rfl⟩
  case round =>
    obtain ⟨j, hj, rfl, rfl⟩ := hrel
    by_cases hlt : j < k
    · have cp := cpi j hlt
      have cqj := cqi j hj
      clear cpi cqi
      go_wp2
      go_roundw
      case rel => exact ⟨j + 1, by omega, by go_num, trivial⟩
      case measure => simp [intOf]; omega
    · clear cpi cqi
      go_wp2_with fail
      refine hGd.mono ?_
      rintro e w7 ⟨rfl, hb7⟩
      go_wp2
      go_ret
      refine ⟨?_, hB5.trans ((hb6.trans (hb7.mono hb6.size)).mono hB5.size)⟩
      show Ending.returned (.bool (decide (k = 0) == ((k : Int) == 0))) = _
      congr 2
      by_cases h : k = 0
      · subst h; rfl
      · have : ((k : Int) == 0) = false := by simp [h]
        rw [this, decide_eq_false h]
        rfl
end Go.Proofs.YtncmepcgafimjaaDoor
