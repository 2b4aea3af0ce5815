/- word of lex. -/
import Derived.Test.YtidpalighpdlfaaGreatDoorMrk
import Derived.Test.YtidpalighpdlfaaGreatDoorGood
namespace Go.Proofs.YtidpalighpdlfaaGreatDoor
open Go.RowKit

/-- An append as a step of a plain region, with what it leaves alone. -/
theorem wpl_appg {T e : TypeId} {z : Value} {k : Nat} (hT : Tryz.prog.underlying T = some (.slice e)) (hI : (Tryz.prog.info? e).map (fun i => (i.zero, i.size, i.bytes)) = some (some z, 1, k)) (hz : z.cells.size = 1) (hk : k ≤ 8)
    {w : World} {ops : Array Oper} {rest : List Oper} {o : Oper} {a : Act} {Q : Exit → Act → World → Prop} (hgd : o.guard = none) (s x : Operand)
    (hop : o.op = .call { callee := .builtin .append, args := #[s, x], argTypes := #[T, T] })
    (B : Nat) (v : Value) (vs : List Value) (ao : Option Addr) (xs : List Value) (n cap : Nat) (hxl : n = xs.length) (hs : a.eval s = v) (hx : a.eval x = .slice ao n cap)
    (ho : Own w B e v vs) (hB : B ≤ w.heap.size) (hr : Rd w ao xs) (h1 : ∀ u ∈ xs, u.oneCell' = true) (hn : ao = none → cap = 0) (hlen : vs.length + xs.length ≤ 10000000)
    (h : ∀ v' w', Own w' B e v' (vs ++ xs) → Below B w w' → w.grownBy w' v.ownBlock → wpList Tryz.prog ops Q rest (a.put o.dst v') w') : wpList Tryz.prog ops Q (o :: rest) a w := by
  subst hxl
  refine wpList_plain hgd fun K hK => ?_
  obtain ⟨v', w', hrun, h2, h3, h4⟩ := run_app hT hI hz hk w B v vs ao xs cap o.type ho hB hr h1 hn hlen
  unfold Oper.wp
  simp [execOp, hop, resolve, invoke, builtin, hs, hx, hrun, Result.andThen]
  exact hK _ _ (h v' w' h2 h3 h4)
theorem app_keeps {w wr w3 : World} {o : Obj} {j : Nat} (hj : j < w.heap.size + 1) (hsz : w.heap.size + 1 ≤ wr.heap.size) (hb : Below (w.heap.size + 1) (wr.alloc o) w3) : w3.heap[j]? = wr.heap[j]? := (hb.block j hj).trans (Below.heap_alloc wr o j (by omega))

set_option maxRecDepth 100000 in
set_option maxHeartbeats 400000 in
theorem word_lex (s : ByteArray) (hs : s.size ≤ 100000) (h0 : 0 < s.size) (w : World) (ht : Tabs w) : Calls Tryz.prog 37 #[.string s] w fun e w' => AnsT (X.word ((bts s).drop 1)) 0 e ∧ Below w.heap.size w w' := by
  obtain ⟨o, ho⟩ : ∃ o, X.word ((bts s).drop 1) = o := ⟨_, rfl⟩
  rw [ho]
  have HO := hide ho
  clear ho
  go_enter Tryz.func37, Tryz.ntmps37
  go_wp2
  go_loopw [4, 5] (fun v u wr => ∃ (pre : List UInt8) (i : Nat), u = .int .i64 (i : Int) ∧ 1 ≤ i ∧ i ≤ s.size ∧ pre.length ≤ i ∧ Own wr (w.heap.size + 1) 5 v (cB pre) ∧ wr.heap[w.heap.size]? = some room ∧ Hid (X.wordB ((bts s).drop 1) = (X.wordB ((bts s).drop i)).map fun p => (pre ++ p.1, i - 1 + p.2)) ∧ Below w.heap.size w wr) (fun _ u _ => s.size - (intOf u).toNat)
  case atStart => exact ⟨[], 1, rfl, Nat.le_refl _, by omega, by simp, own_nil _ _ _, heap_alloc_new w room, hide (by simp), al1 w room⟩
  case round =>
    obtain ⟨pre, i, rfl, hi1, hi2, hpl, hv, hr0, HW, hb⟩ := hrel
    by_cases hlt : i < s.size
    · have hl : i < (bts s).length := hlt
      have hx := fun j hj h => idx_at (s := s) hl j hj h
      have hdr := List.drop_eq_getElem_cons hl
      have hsz : w.heap.size + 1 ≤ wr.heap.size := (Array.getElem?_eq_some_iff.1 hr0).1
      have HD := hide hdr
      clear hdr
      generalize (bts s)[i] = c at *
      have hx2 : ∀ h, s[i]'h = c := fun h => hx (i : Int) rfl h
      clear hx
      have e34 : ((c.toNat : Int) == 34) = decide (c = 34) := u8_eq c 34
      have e10 : ((c.toNat : Int) == 10) = decide (c = 10) := u8_eq c 10
      have e92 : ((c.toNat : Int) == 92) = decide (c = 92) := u8_eq c 92
      by_cases h10 : c = 10
      · rw [decide_eq_true h10] at e10
        have n10 : ((c.toNat : Int) != 10) = false := by simp [bne, e10]
        have HN : Hid (o = none) := hide (by
          rw [← HO.out]
          unfold X.word
          rw [HW.out, HD.out, h10, X.wordB_feed]
          rfl)
        clear HW HD h10 e34 e92 HO
        obtain ⟨d0, d1, d2, d3⟩ := cells_four hr0
        have f0 := frozen_row hr0 0
        have f1 := frozen_row hr0 1
        have f2 := frozen_row hr0 2
        have f3 := frozen_row hr0 3
        go_wp2
        exact bodyPost_ret (v := .tuple #[tokV tz 0, .int .i64 0]) (by unfold tokV; simp [results, Tryz.results37, go_sem, d0, d1, d2, d3, tz]) rfl ⟨ansT_none HN.out, by first | (with_reducible exact hb) | exact four_set hb _ _ _ _⟩
      · rw [decide_eq_false h10] at e10
        have n10 : ((c.toNat : Int) != 10) = true := by simp [bne, e10]
        by_cases h34 : c = 34
        · rw [decide_eq_true h34] at e34
          clear e92
          have HW2 : Hid (X.wordB ((bts s).drop 1) = some (pre, i - 1 + 1)) := hide (by
            rw [HW.out, HD.out, h34, X.wordB_end]
            simp)
          clear HW HD h34
          obtain ⟨ao, cap, rfl, hcap, hnil, hrd⟩ := hv.rd
          have hR := good_any ao cap pre (by omega) (by rw [cB_length] at hcap; exact hcap) hnil wr (ht.later hb) hrd
          rw [cB_length] at hv hcap ⊢
          cases hg : M.good pre with
          | false =>
            rw [hg] at hR
            have HN : Hid (o = none) := hide (by
              rw [← HO.out]
              unfold X.word
              rw [HW2.out]
              simp only
              rw [if_neg (by rw [hg]; decide)])
            clear HW2 hg HO
            go_wp2_with fail
            refine hR.mono ?_
            rintro e w1 ⟨rfl, hb1⟩
            replace hr0 := (hb1.block w.heap.size (by omega)).trans hr0
            have hbb := nx hb hb1
            clear hR hv hrd hb1
            obtain ⟨d0, d1, d2, d3⟩ := cells_four hr0
            have f0 := frozen_row hr0 0
            have f1 := frozen_row hr0 1
            have f2 := frozen_row hr0 2
            have f3 := frozen_row hr0 3
            go_wp2
            exact bodyPost_ret (v := .tuple #[tokV tz 0, .int .i64 0]) (by unfold tokV; simp [results, Tryz.results37, go_sem, d0, d1, d2, d3, tz]) rfl ⟨ansT_none HN.out, by first | (with_reducible exact hbb) | exact four_set hbb _ _ _ _⟩
          | true =>
            rw [hg] at hR
            have HN : Hid (o = some (⟨2, pre, 0⟩, i + 1)) := hide (by
              rw [← HO.out]
              unfold X.word
              rw [HW2.out]
              simp only
              rw [if_pos hg, show i - 1 + 1 + 1 = i + 1 by omega])
            clear HW2 hg HO
            go_wp2_with fail
            refine hR.mono ?_
            rintro e w1 ⟨rfl, hb1⟩
            replace hr0 := (hb1.block w.heap.size (by omega)).trans hr0
            have hbb := nx hb hb1
            have hcv := conv_any w1 ao pre cap (hrd.later hb1)
            clear hR hv hrd hb1
            obtain ⟨d0, d1, d2, d3⟩ := cells_four hr0
            have f0 := frozen_row hr0 0
            have f1 := frozen_row hr0 1
            have f2 := frozen_row hr0 2
            have f3 := frozen_row hr0 3
            go_wp2
            exact bodyPost_ret (v := .tuple #[tokV ⟨2, pre, 0⟩ 0, .int .i64 ((i + 1 : Nat) : Int)]) (by unfold tokV; simp [results, Tryz.results37, go_sem, d0, d1, d2, d3]) rfl ⟨ansT_some HN.out, four_set hbb _ _ _ _⟩
        · rw [decide_eq_false h34] at e34
          by_cases h92 : c = 92
          · rw [decide_eq_true h92] at e92
            by_cases hl1 : i + 1 < s.size
            · have hl2 : i + 1 < (bts s).length := hl1
              have hy := fun j hj h => idx_at (s := s) hl2 j hj h
              have hdr := List.drop_eq_getElem_cons hl2
              have HD2 := hide hdr
              clear hdr
              generalize (bts s)[i + 1] = x at *
              have hy2 : ∀ h, s[((i : Int) + 1).toNat]'h = x := fun h => hy ((i : Int) + 1) (by omega) h
              have hy3 : ∀ h, s[i + 1]'h = x := fun h => hy ((i + 1 : Nat) : Int) rfl h
              clear hy
              have eq0 : (((i : Int) + 1) == (s.size : Int)) = false := by rw [beq_eq_false_iff_ne]; omega
              have x34 : ((x.toNat : Int) == 34) = decide (x = 34) := u8_eq x 34
              have x92 : ((x.toNat : Int) == 92) = decide (x = 92) := u8_eq x 92
              by_cases hx : x = 34 ∨ x = 92
              · have HS : Hid (X.wordB ((bts s).drop 1) = (X.wordB ((bts s).drop (i + 2))).map fun p => (pre ++ [x] ++ p.1, i + 2 - 1 + p.2)) := hide (by
                  rw [HW.out, HD.out, HD2.out, h92, X.wordB_esc _ hx, Option.map_map]
                  congr 1
                  funext p
                  simp only [Function.comp_apply, List.append_assoc, List.singleton_append]
                  congr 1
                  omega)
                have hxx : ((x.toNat : Int) == 34) = true ∨ (((x.toNat : Int) == 34) = false ∧ ((x.toNat : Int) == 92) = true) := by
                  rw [x34, x92]
                  by_cases h : x = 34
                  · exact .inl (decide_eq_true h)
                  · exact .inr ⟨decide_eq_false h, decide_eq_true (hx.resolve_left h)⟩
                clear HW HD HD2 h34 h10 h92 x34 x92 hx
                rcases hxx with x34 | ⟨x34, x92⟩
                · have n34 : ((x.toNat : Int) != 34) = false := by simp [bne, x34]
                  go_wp2_with (first
                    | (at_builtin; refine wpl_appg Tryz.underlying40 info5 rfl (by decide) rfl _ _ rfl (w.heap.size + 1) _ (cB pre) (some ⟨wr.heap.size, 0, none⟩) [.int .u8 (x.toNat : Int)] 1 1 rfl rfl rfl (hv.later ((Below.refl _ _).alloc (Nat.le_refl _) _)) (by have := hsz; simp; omega) (rd_new _ _ _ _ _ rfl) (by simp [Value.oneCell']) (fun e => by cases e) (by rw [cB_length]; simp; omega) ?_; intro v3 w3 hv3 hb3 hg3))
                  go_roundw
                  case rel => exact ⟨pre ++ [x], i + 2, by go_num, by omega, by omega, by simp; omega, by rw [cB_append]; exact hv3, (app_keeps (by omega) hsz hb3).trans hr0, HS, (hb.alloc hb.size _).trans (hb3.mono (by omega))⟩
                  case measure => simp [intOf]; omega
                · have n34 : ((x.toNat : Int) != 34) = true := by simp [bne, x34]
                  have n92 : ((x.toNat : Int) != 92) = false := by simp [bne, x92]
                  go_wp2_with (first
                    | (at_builtin; refine wpl_appg Tryz.underlying40 info5 rfl (by decide) rfl _ _ rfl (w.heap.size + 1) _ (cB pre) (some ⟨wr.heap.size, 0, none⟩) [.int .u8 (x.toNat : Int)] 1 1 rfl rfl rfl (hv.later ((Below.refl _ _).alloc (Nat.le_refl _) _)) (by have := hsz; simp; omega) (rd_new _ _ _ _ _ rfl) (by simp [Value.oneCell']) (fun e => by cases e) (by rw [cB_length]; simp; omega) ?_; intro v3 w3 hv3 hb3 hg3))
                  go_roundw
                  case rel => exact ⟨pre ++ [x], i + 2, by go_num, by omega, by omega, by simp; omega, by rw [cB_append]; exact hv3, (app_keeps (by omega) hsz hb3).trans hr0, HS, (hb.alloc hb.size _).trans (hb3.mono (by omega))⟩
                  case measure => simp [intOf]; omega
              · have HN : Hid (o = none) := hide (by
                  rw [← HO.out]
                  unfold X.word
                  rw [HW.out, HD.out, HD2.out, h92]
                  conv => lhs; unfold X.wordB
                  simp [hx])
                have n34 : ((x.toNat : Int) != 34) = true := by simp only [bne, x34, decide_eq_false (fun h => hx (.inl h)), Bool.not_false]
                have n92 : ((x.toNat : Int) != 92) = true := by simp only [bne, x92, decide_eq_false (fun h => hx (.inr h)), Bool.not_false]
                clear HW HD HD2 h34 h10 h92 x34 x92 hx HO
                obtain ⟨d0, d1, d2, d3⟩ := cells_four hr0
                have f0 := frozen_row hr0 0
                have f1 := frozen_row hr0 1
                have f2 := frozen_row hr0 2
                have f3 := frozen_row hr0 3
                go_wp2
                exact bodyPost_ret (v := .tuple #[tokV tz 0, .int .i64 0]) (by unfold tokV; simp [results, Tryz.results37, go_sem, d0, d1, d2, d3, tz]) rfl ⟨ansT_none HN.out, by first | (with_reducible exact hb) | exact four_set hb _ _ _ _⟩
            · have eq0 : (((i : Int) + 1) == (s.size : Int)) = true := by rw [beq_iff_eq]; omega
              have HN : Hid (o = none) := hide (by
                rw [← HO.out]
                unfold X.word
                rw [HW.out, HD.out, h92, List.drop_eq_nil_of_le (by rw [bts_len]; omega)]
                rfl)
              clear HW HD h92 h10 h34 HO
              obtain ⟨d0, d1, d2, d3⟩ := cells_four hr0
              have f0 := frozen_row hr0 0
              have f1 := frozen_row hr0 1
              have f2 := frozen_row hr0 2
              have f3 := frozen_row hr0 3
              go_wp2
              exact bodyPost_ret (v := .tuple #[tokV tz 0, .int .i64 0]) (by unfold tokV; simp [results, Tryz.results37, go_sem, d0, d1, d2, d3, tz]) rfl ⟨ansT_none HN.out, by first | (with_reducible exact hb) | exact four_set hb _ _ _ _⟩
          · rw [decide_eq_false h92] at e92
            have HS : Hid (X.wordB ((bts s).drop 1) = (X.wordB ((bts s).drop (i + 1))).map fun p => (pre ++ [c] ++ p.1, i + 1 - 1 + p.2)) := hide (by
              rw [HW.out, HD.out, X.wordB_other _ h34 h10 h92, Option.map_map]
              congr 1
              funext p
              simp only [Function.comp_apply, List.append_assoc, List.singleton_append]
              congr 1
              omega)
            clear HW HD h34 h10 h92
            go_wp2_with (first
              | (at_builtin; refine wpl_appg Tryz.underlying40 info5 rfl (by decide) rfl _ _ rfl (w.heap.size + 1) _ (cB pre) (some ⟨wr.heap.size, 0, none⟩) [.int .u8 (c.toNat : Int)] 1 1 rfl rfl rfl (hv.later ((Below.refl _ _).alloc (Nat.le_refl _) _)) (by have := hsz; simp; omega) (rd_new _ _ _ _ _ rfl) (by simp [Value.oneCell']) (fun e => by cases e) (by rw [cB_length]; simp; omega) ?_; intro v3 w3 hv3 hb3 hg3))
            go_roundw
            case rel => exact ⟨pre ++ [c], i + 1, by go_num, by omega, by omega, by simp; omega, by rw [cB_append]; exact hv3, (app_keeps (by omega) hsz hb3).trans hr0, HS, (hb.alloc hb.size _).trans (hb3.mono (by omega))⟩
            case measure => simp [intOf]; omega
    · have HN : Hid (o = none) := hide (by
        rw [← HO.out]
        unfold X.word
        rw [HW.out, List.drop_eq_nil_of_le (by rw [bts_len]; omega)]
        rfl)
      clear HW HO
      obtain ⟨d0, d1, d2, d3⟩ := cells_four hr0
      have f0 := frozen_row hr0 0
      have f1 := frozen_row hr0 1
      have f2 := frozen_row hr0 2
      have f3 := frozen_row hr0 3
      go_wp2
      exact bodyPost_ret (v := .tuple #[tokV tz 0, .int .i64 0]) (by unfold tokV; simp [results, Tryz.results37, go_sem, d0, d1, d2, d3, tz]) rfl ⟨ansT_none HN.out, by first | (with_reducible exact hb) | exact four_set hb _ _ _ _⟩
end Go.Proofs.YtidpalighpdlfaaGreatDoor
