/- The walk of UtfCuts: it answers true whatever the numbers, the place and the bytes behind them, and nothing that was there has turned. -/
import Derived.Test.YtncmepcgafimjaaDoorTorn
namespace Go.Proofs.YtncmepcgafimjaaDoor
open Go.RowKit

theorem nx {a b c : World} (h : Below a.heap.size a b) (k : Below b.heap.size b c) : Below a.heap.size a c := h.trans (k.mono h.size)

theorem encs_split (l : List Int) (k : Nat) : M.encs l = M.encs (l.take k) ++ M.encs (l.drop k) := by
  unfold M.encs
  rw [← List.flatMap_append, List.take_append_drop]
theorem pts_encs' (l : List Int) : M.pts (M.encs l) = l.map M.fix := by
  have := M.pts_encs l []
  rw [List.append_nil, M.pts_nil, List.append_nil] at this
  exact this

set_option maxHeartbeats 4000000 in
theorem cuts_any (ra : Option Addr) (rcap : Nat) (l : List Int) (hml : l.length ≤ 9223372036854775807) (hrc : l.length ≤ rcap) (hrn : ra = none → rcap = 0) (h32 : ∀ x ∈ l, -2147483648 ≤ x ∧ x ≤ 2147483647) (at' : Int) (ha0 : 0 ≤ at') (ha1 : at' ≤ 255)
    (ta : Option Addr) (tcap : Nat) (tl : List UInt8) (hmt : tl.length ≤ 9223372036854775807) (htc : tl.length ≤ tcap) (htn : ta = none → tcap = 0) (w : World) (ht : Tabs w) (hr : Rd w ra (cI l)) (htl : Rd w ta (cB tl)) :
    Calls Tryd.prog 5 #[.slice ra l.length rcap, .int .u8 at', .slice ta tl.length tcap] w fun e w' => e = .returned (.bool true) ∧ Below w.heap.size w w' := by
  by_cases hbig : 100 < l.length ∨ 100 < tl.length
  · rcases hbig with hbig | hbig
    · go_enter Tryd.func5, Tryd.ntmps5
      go_wp2_with fail
      refine (known_any w ht).mono ?_
      rintro e w1 ⟨rfl, hb1⟩
      go_wp2
      all_goals
        go_ret
        exact ⟨rfl, hb1⟩
    · by_cases hbig2 : 100 < l.length
      · go_enter Tryd.func5, Tryd.ntmps5
        go_wp2_with fail
        refine (known_any w ht).mono ?_
        rintro e w1 ⟨rfl, hb1⟩
        go_wp2
        all_goals
          go_ret
          exact ⟨rfl, hb1⟩
      · go_enter Tryd.func5, Tryd.ntmps5
        go_wp2_with fail
        refine (known_any w ht).mono ?_
        rintro e w1 ⟨rfl, hb1⟩
        go_wp2
        all_goals
          go_ret
          exact ⟨rfl, hb1⟩
  have hl1 : l.length ≤ 100 := by omega
  have hl2 : tl.length ≤ 100 := by omega
  clear hbig hml hmt
  obtain ⟨k, hk⟩ : ∃ k : Nat, (k : Int) = at' % ((l.length : Int) + 1) := ⟨(at' % ((l.length : Int) + 1)).toNat, Int.toNat_of_nonneg (Int.emod_nonneg _ (by omega))⟩
  have hkl : k ≤ l.length := by have := Int.emod_lt_of_pos at' (show (0 : Int) < (l.length : Int) + 1 by omega); omega
  have hk' := hk.symm
  clear hk
  go_enter Tryd.func5, Tryd.ntmps5
  go_wp2_with fail
  refine (known_any w ht).mono ?_
  rintro e w1 ⟨rfl, hb1⟩
  have e1 : decide ((100 : Int) < (l.length : Int)) = false := by simp; omega
  have e2 : decide ((100 : Int) < (tl.length : Int)) = false := by simp; omega
  go_wp2_with fail
  clear e1 e2
  refine (bytes_any ra rcap l (by omega) h32 w1 (hr.later hb1)).mono ?_
  rintro e w2 ⟨v2, rfl, ho2, hb2⟩
  obtain ⟨ab, cb, rfl, hcb, hnb, hrb⟩ := ho2.rd
  have hB2 := nx hb1 hb2
  clear hb1 hb2 ho2
  rw [cB_length] at hcb ⊢
  have hbl := M.encs_length l
  have HPB := hide (pts_encs' l)
  have HPU := hide (M.pts_encs l tl)
  have HSP := hide (encs_split l k)
  generalize M.encs l = bs at *
  obtain ⟨a1, c1, hr1, hk1, hn1, hs1⟩ := cut_to (T := 23) Tryd.underlying23 elemSize23 w2 ra (cI l) _ rcap k hkl hrc hrn (hr.later hB2)
  rw [show (cI l).take k = cI (l.take k) by simp [cI]] at hr1
  have h32' : ∀ x ∈ l.take k, -2147483648 ≤ x ∧ x ≤ 2147483647 := fun x hx => h32 x (List.mem_of_mem_take hx)
  have hA := bytes_any a1 c1 (l.take k) (by rw [List.length_take]; omega) h32' w2 hr1
  rw [show (l.take k).length = k by rw [List.length_take]; omega] at hA
  have HPA := hide (pts_encs' (l.take k))
  have HPY := hide (pts_encs' (l.drop k))
  have hal := M.encs_length (l.take k)
  rw [List.length_take] at hal
  have HZ := hide (show (l.take k).map M.fix ++ (l.drop k).map M.fix = l.map M.fix by rw [← List.map_append, List.take_append_drop])
  have HXK := hide (show ((l.take k).map M.fix).length = k by rw [List.length_map, List.length_take]; omega)
  generalize M.encs (l.take k) = es at *
  obtain ⟨K, hK⟩ : ∃ K : Int, K = (k : Int) := ⟨_, rfl⟩
  rw [← hK] at hs1 hk'
  have HXK2 := hide (show ((((l.take k).map M.fix).length : Nat) : Int) = K by rw [HXK.out, hK])
  have hzero : l.length = 0 ∨ 0 < l.length := by omega
  have hdl := M.encs_length (l.drop k)
  rw [List.length_drop] at hdl
  have hble : es.length ≤ bs.length := by rw [HSP.out, List.length_append]; omega
  have hbdl : bs.length - es.length = (M.encs (l.drop k)).length := by rw [HSP.out, List.length_append]; omega
  have HDR := hide (show bs.drop es.length = M.encs (l.drop k) by rw [HSP.out, List.drop_left])
  clear HSP
  generalize M.encs (l.drop k) = ds at *
  have hxl : ((l.take k).map M.fix).length ≤ 100 := by rw [HXK.out]; omega
  have hyl : ((l.drop k).map M.fix).length ≤ 100 := by rw [List.length_map, List.length_drop]; omega
  have hzl : (l.map M.fix).length ≤ 100 := by rw [List.length_map]; omega
  have hwl := M.pts_le tl
  clear HXK
  generalize (l.take k).map M.fix = xs at *
  generalize (l.drop k).map M.fix = ys at *
  generalize l.map M.fix = zs at *
  have HBL := hide hbdl
  clear hbdl
  rcases hzero with hz | hz
  · have hk0 : K = 0 := by rw [← hk', hz]; simp
    clear hk' hK
    subst hk0
    have hz' : (l.length : Int) ≤ 0 := by omega
    clear hz
    go_wp2_with fail
    refine hA.mono ?_
    rintro e w3 ⟨v3, rfl, ho3, hb3⟩
    obtain ⟨aa, ca, rfl, hca, hna, hra⟩ := ho3.rd
    rw [cB_length] at hca ⊢
    clear hA hs1 ho3 hr1
    go_wp2_with fail
    refine (runes_any aa ca es (by omega) hca hna w3 (ht.later (nx hB2 hb3)) hra).mono ?_
    rintro e w4 ⟨v4, u4, rfl, hv4, _, hb4⟩
    rw [HPA.out] at hv4
    obtain ⟨ax, cx, rfl, hcx, hnx, hrx⟩ := hv4.rd
    rw [cI_length] at hcx ⊢
    have hB4 := nx hB2 (nx hb3 hb4)
    obtain ⟨a5, c5, hr5, hk5, hn5, hs5⟩ := cut_from (T := 22) Tryd.underlying22 elemSize22 w4 ab (cB bs) bs.length cb es.length (cB_length bs) hble hcb hnb (hrb.later (nx hb3 hb4))
    rw [show (cB bs).drop es.length = cB ds by rw [← HDR.out]; simp [cB]] at hr5
    rw [HBL.out] at hk5 hs5
    have hrb4 := hrb.later (nx hb3 hb4)
    clear hv4 hra hb3 hb4 hrb
    go_wp2_with fail
    refine (runes_any a5 c5 ds (by omega) hk5 hn5 w4 (ht.later hB4) hr5).mono ?_
    rintro e w5 ⟨v5, u5, rfl, hv5, _, hb5⟩
    rw [HPY.out] at hv5
    obtain ⟨ay, cy, rfl, hcy, hny, hry⟩ := hv5.rd
    rw [cI_length] at hcy ⊢
    clear hs5 hr5 hv5
    go_wp2_with fail
    refine (runes_any ab cb bs (by omega) hcb hnb w5 (ht.later (nx hB4 hb5)) (hrb4.later hb5)).mono ?_
    rintro e w6 ⟨v6, u6, rfl, hv6, _, hb6⟩
    rw [HPB.out] at hv6
    obtain ⟨az, cz, rfl, hcz, hnz, hrz⟩ := hv6.rd
    rw [cI_length] at hcz ⊢
    have hB6 := nx hB4 (nx hb5 hb6)
    have hrx6 := hrx.later (nx hb5 hb6)
    have hry6 := hry.later hb6
    have hrb6 := hrb4.later (nx hb5 hb6)
    clear hv6 hrx hry hrb4 hb5 hb6
    go_wp2_with (first
      | (at_builtin; refine wpl_app8 rfl _ _ rfl w6.heap.size (.slice none 0 0) [] ab bs bs.length cb rfl rfl rfl (own_nil _ _ _) (Nat.le_refl _) hrb6 hnb (by simp; omega) ?_; intro v7 w7 ho7 hb7; rw [List.nil_append] at ho7)
      | (at_builtin; refine wpl_app8 rfl _ _ rfl w6.heap.size v7 bs ta tl tl.length tcap rfl rfl rfl ho7 hb7.size ((htl.later hB6).later hb7) htn (by omega) ?_; intro v8 w8 ho8 hb8; obtain ⟨cs, hcs⟩ : ∃ cs, cs = bs ++ tl := ⟨_, rfl⟩; have hcl : cs.length ≤ 500 := (by rw [hcs, List.length_append]; omega); rw [← hcs] at ho8 HPU; clear hcs; obtain ⟨a8, c8, rfl, hc8, hn8, hr8⟩ := ho8.rd; rw [cB_length] at hc8 ⊢))
    have hb68 : Below w6.heap.size w6 w8 := hb7.trans hb8
    clear ho7 ho8 hb7 hb8
    refine (runes_any a8 c8 cs (by omega) hc8 hn8 w8 (ht.later (nx hB6 hb68)) hr8).mono ?_
    rintro e w9 ⟨v9, u9, rfl, hv9, _, hb9⟩
    rw [HPU.out] at hv9
    obtain ⟨au, cu, rfl, hcu, hnu, hru⟩ := hv9.rd
    rw [cI_length] at hcu ⊢
    have hB9 := nx hB6 (nx hb68 hb9)
    clear hv9 hr8
    go_wp2_with fail
    refine (runes_any ta tcap tl (by omega) htc htn w9 (ht.later hB9) (htl.later hB9)).mono ?_
    rintro e w10 ⟨v10, u10, rfl, hv10, _, hb10⟩
    obtain ⟨aw, cw, rfl, hcw, hnw, hrw⟩ := hv10.rd
    rw [cI_length] at hcw ⊢
    have hx10 := nx hb68 (nx hb9 hb10)
    have hrx10 := hrx6.later hx10
    have hry10 := hry6.later hx10
    have hrz10 := hrz.later hx10
    have hru10 := hru.later hb10
    have hB10 := nx hB9 hb10
    clear hrx6 hry6 hrz hru hv10 hb68 hb9 hb10 hx10
    generalize M.pts tl = ws at *
    go_wp2_with (first
      | (at_builtin; refine wpl_app32 rfl (.const (.slice none 0 0)) (.tmp 77) rfl w10.heap.size (.slice none 0 0) [] az zs zs.length cz rfl rfl rfl (own_nil _ _ _) (Nat.le_refl _) hrz10 hnz (by simp; omega) ?_; intro v11 w11 ho11 hb11; rw [List.nil_append] at ho11)
      | (at_builtin; refine wpl_app32 rfl (.tmp 78) (.tmp 79) rfl w10.heap.size v11 zs aw ws ws.length cw rfl rfl rfl ho11 hb11.size (hrw.later hb11) hnw (by omega) ?_; intro v12 w12 ho12 hb12; obtain ⟨js, hjs⟩ : ∃ js, js = zs ++ ws := ⟨_, rfl⟩; have hjl : js.length ≤ 500 := (by rw [hjs, List.length_append]; omega); have HJ := hide hjs; rw [← hjs] at ho12; clear hjs; obtain ⟨aj, cj, rfl, hcj, hnj, hrj⟩ := ho12.rd; rw [cI_length] at hcj ⊢; have hb1012 : Below w10.heap.size w10 w12 := hb11.trans hb12; have hrx12 := hrx10.later hb1012; have hry12 := hry10.later hb1012; clear ho12 ho11 hb11 hb12)
      | (at_builtin; refine wpl_app32 rfl (.const (.slice none 0 0)) (.tmp 81) rfl w12.heap.size (.slice none 0 0) [] ax xs xs.length cx rfl rfl rfl (own_nil _ _ _) (Nat.le_refl _) hrx12 hnx (by simp; omega) ?_; intro v13 w13 ho13 hb13; rw [List.nil_append] at ho13)
      | (at_builtin; refine wpl_app32 rfl (.tmp 82) (.tmp 83) rfl w12.heap.size v13 xs ay ys ys.length cy rfl rfl rfl ho13 hb13.size (hry12.later hb13) hny (by omega) ?_; intro v14 w14 ho14 hb14; rw [HZ.out] at ho14; obtain ⟨aq, cq, rfl, hcq, hnq, hrq⟩ := ho14.rd; rw [cI_length] at hcq ⊢; have hb1214 : Below w12.heap.size w12 w14 := hb13.trans hb14; clear ho14 ho13 hb13 hb14))
    have hb1014 := nx hb1012 hb1214
    refine (same_any aq az cq cz zs zs (by omega) w14 hrq (hrz10.later hb1014)).mono ?_
    rintro e w15 ⟨rfl, hb15⟩
    rw [decide_eq_true rfl]
    have hSame := same_any au aj cu cj (zs ++ ws) js (by rw [List.length_append]; omega) w15 (hru10.later (nx hb1014 hb15)) (hrj.later (nx hb1214 hb15))
    rw [show decide (zs ++ ws = js) = true from decide_eq_true HJ.out.symm] at hSame
    have hxk := HXK2.out
    clear hrx10 hry10 hrz10 hru10 hrx12 hry12 hrj hrq hrw
    rw [List.length_append] at hSame
    go_wp2_with fail
    refine hSame.mono ?_
    rintro e w16 ⟨rfl, hb16⟩
    go_wp2
    go_ret
    exact ⟨rfl, nx hB10 (nx hb1014 (nx hb15 hb16))⟩
  · clear hK
    have hz' : 0 < (l.length : Int) := by omega
    clear hz
    go_wp2_with fail
    refine hA.mono ?_
    rintro e w3 ⟨v3, rfl, ho3, hb3⟩
    obtain ⟨aa, ca, rfl, hca, hna, hra⟩ := ho3.rd
    rw [cB_length] at hca ⊢
    clear hA hs1 ho3 hr1
    go_wp2_with fail
    refine (runes_any aa ca es (by omega) hca hna w3 (ht.later (nx hB2 hb3)) hra).mono ?_
    rintro e w4 ⟨v4, u4, rfl, hv4, _, hb4⟩
    rw [HPA.out] at hv4
    obtain ⟨ax, cx, rfl, hcx, hnx, hrx⟩ := hv4.rd
    rw [cI_length] at hcx ⊢
    have hB4 := nx hB2 (nx hb3 hb4)
    obtain ⟨a5, c5, hr5, hk5, hn5, hs5⟩ := cut_from (T := 22) Tryd.underlying22 elemSize22 w4 ab (cB bs) bs.length cb es.length (cB_length bs) hble hcb hnb (hrb.later (nx hb3 hb4))
    rw [show (cB bs).drop es.length = cB ds by rw [← HDR.out]; simp [cB]] at hr5
    rw [HBL.out] at hk5 hs5
    have hrb4 := hrb.later (nx hb3 hb4)
    clear hv4 hra hb3 hb4 hrb
    go_wp2_with fail
    refine (runes_any a5 c5 ds (by omega) hk5 hn5 w4 (ht.later hB4) hr5).mono ?_
    rintro e w5 ⟨v5, u5, rfl, hv5, _, hb5⟩
    rw [HPY.out] at hv5
    obtain ⟨ay, cy, rfl, hcy, hny, hry⟩ := hv5.rd
    rw [cI_length] at hcy ⊢
    clear hs5 hr5 hv5
    go_wp2_with fail
    refine (runes_any ab cb bs (by omega) hcb hnb w5 (ht.later (nx hB4 hb5)) (hrb4.later hb5)).mono ?_
    rintro e w6 ⟨v6, u6, rfl, hv6, _, hb6⟩
    rw [HPB.out] at hv6
    obtain ⟨az, cz, rfl, hcz, hnz, hrz⟩ := hv6.rd
    rw [cI_length] at hcz ⊢
    have hB6 := nx hB4 (nx hb5 hb6)
    have hrx6 := hrx.later (nx hb5 hb6)
    have hry6 := hry.later hb6
    have hrb6 := hrb4.later (nx hb5 hb6)
    clear hv6 hrx hry hrb4 hb5 hb6
    go_wp2_with (first
      | (at_builtin; refine wpl_app8 rfl _ _ rfl w6.heap.size (.slice none 0 0) [] ab bs bs.length cb rfl rfl rfl (own_nil _ _ _) (Nat.le_refl _) hrb6 hnb (by simp; omega) ?_; intro v7 w7 ho7 hb7; rw [List.nil_append] at ho7)
      | (at_builtin; refine wpl_app8 rfl _ _ rfl w6.heap.size v7 bs ta tl tl.length tcap rfl rfl rfl ho7 hb7.size ((htl.later hB6).later hb7) htn (by omega) ?_; intro v8 w8 ho8 hb8; obtain ⟨cs, hcs⟩ : ∃ cs, cs = bs ++ tl := ⟨_, rfl⟩; have hcl : cs.length ≤ 500 := (by rw [hcs, List.length_append]; omega); rw [← hcs] at ho8 HPU; clear hcs; obtain ⟨a8, c8, rfl, hc8, hn8, hr8⟩ := ho8.rd; rw [cB_length] at hc8 ⊢))
    have hb68 : Below w6.heap.size w6 w8 := hb7.trans hb8
    clear ho7 ho8 hb7 hb8
    refine (runes_any a8 c8 cs (by omega) hc8 hn8 w8 (ht.later (nx hB6 hb68)) hr8).mono ?_
    rintro e w9 ⟨v9, u9, rfl, hv9, _, hb9⟩
    rw [HPU.out] at hv9
    obtain ⟨au, cu, rfl, hcu, hnu, hru⟩ := hv9.rd
    rw [cI_length] at hcu ⊢
    have hB9 := nx hB6 (nx hb68 hb9)
    clear hv9 hr8
    go_wp2_with fail
    refine (runes_any ta tcap tl (by omega) htc htn w9 (ht.later hB9) (htl.later hB9)).mono ?_
    rintro e w10 ⟨v10, u10, rfl, hv10, _, hb10⟩
    obtain ⟨aw, cw, rfl, hcw, hnw, hrw⟩ := hv10.rd
    rw [cI_length] at hcw ⊢
    have hx10 := nx hb68 (nx hb9 hb10)
    have hrx10 := hrx6.later hx10
    have hry10 := hry6.later hx10
    have hrz10 := hrz.later hx10
    have hru10 := hru.later hb10
    have hB10 := nx hB9 hb10
    clear hrx6 hry6 hrz hru hv10 hb68 hb9 hb10 hx10
    generalize M.pts tl = ws at *
    go_wp2_with (first
      | (at_builtin; refine wpl_app32 rfl (.const (.slice none 0 0)) (.tmp 77) rfl w10.heap.size (.slice none 0 0) [] az zs zs.length cz rfl rfl rfl (own_nil _ _ _) (Nat.le_refl _) hrz10 hnz (by simp; omega) ?_; intro v11 w11 ho11 hb11; rw [List.nil_append] at ho11)
      | (at_builtin; refine wpl_app32 rfl (.tmp 78) (.tmp 79) rfl w10.heap.size v11 zs aw ws ws.length cw rfl rfl rfl ho11 hb11.size (hrw.later hb11) hnw (by omega) ?_; intro v12 w12 ho12 hb12; obtain ⟨js, hjs⟩ : ∃ js, js = zs ++ ws := ⟨_, rfl⟩; have hjl : js.length ≤ 500 := (by rw [hjs, List.length_append]; omega); have HJ := hide hjs; rw [← hjs] at ho12; clear hjs; obtain ⟨aj, cj, rfl, hcj, hnj, hrj⟩ := ho12.rd; rw [cI_length] at hcj ⊢; have hb1012 : Below w10.heap.size w10 w12 := hb11.trans hb12; have hrx12 := hrx10.later hb1012; have hry12 := hry10.later hb1012; clear ho12 ho11 hb11 hb12)
      | (at_builtin; refine wpl_app32 rfl (.const (.slice none 0 0)) (.tmp 81) rfl w12.heap.size (.slice none 0 0) [] ax xs xs.length cx rfl rfl rfl (own_nil _ _ _) (Nat.le_refl _) hrx12 hnx (by simp; omega) ?_; intro v13 w13 ho13 hb13; rw [List.nil_append] at ho13)
      | (at_builtin; refine wpl_app32 rfl (.tmp 82) (.tmp 83) rfl w12.heap.size v13 xs ay ys ys.length cy rfl rfl rfl ho13 hb13.size (hry12.later hb13) hny (by omega) ?_; intro v14 w14 ho14 hb14; rw [HZ.out] at ho14; obtain ⟨aq, cq, rfl, hcq, hnq, hrq⟩ := ho14.rd; rw [cI_length] at hcq ⊢; have hb1214 : Below w12.heap.size w12 w14 := hb13.trans hb14; clear ho14 ho13 hb13 hb14))
    have hb1014 := nx hb1012 hb1214
    refine (same_any aq az cq cz zs zs (by omega) w14 hrq (hrz10.later hb1014)).mono ?_
    rintro e w15 ⟨rfl, hb15⟩
    rw [decide_eq_true rfl]
    have hSame := same_any au aj cu cj (zs ++ ws) js (by rw [List.length_append]; omega) w15 (hru10.later (nx hb1014 hb15)) (hrj.later (nx hb1214 hb15))
    rw [show decide (zs ++ ws = js) = true from decide_eq_true HJ.out.symm] at hSame
    have hxk := HXK2.out
    clear hrx10 hry10 hrz10 hru10 hrx12 hry12 hrj hrq hrw
    rw [List.length_append] at hSame
    go_wp2_with fail
    refine hSame.mono ?_
    rintro e w16 ⟨rfl, hb16⟩
    go_wp2
    go_ret
    exact ⟨rfl, nx hB10 (nx hb1014 (nx hb15 hb16))⟩
end Go.Proofs.YtncmepcgafimjaaDoor
