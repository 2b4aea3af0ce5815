/- ChainPlays. -/
import Derived.Test.YtbeihgjonhgfmaaGreatDoorCrz
namespace Go.Proofs.YtbeihgjonhgfmaaGreatDoor
open Go.RowKit Go.Shelf Go.Maps
attribute [local go_sem] Oper.semAt_some
namespace C
set_option maxRecDepth 100000 in
set_option maxHeartbeats 4000000 in
theorem plays_any (so : Option Addr) (scap : Nat) (l : List Stp) (x : Tx) (w : World) (hA : AF w) (hl63 : l.length ≤ 9223372036854775807) (hx63 : x.length ≤ 9223372036854775807) (hs : 0 < l.length → ∃ sb sof, so = some ⟨sb, sof, none⟩ ∧ RdS w sb sof l) :
    Calls Tryz.prog 4 #[.slice so l.length scap, tx x] w fun e W' => e = .returned (.bool true) ∧ Below w.heap.size w W' := by
  have hz := AF.pos hA
  have hes22 := elemSize22
  have hkn := known_any w hA
  have HA := hide hA
  have hsx : (⟨x.toArray⟩ : ByteArray).size = x.length := by simp [ByteArray.size]
  clear hA
  unfold tx at *
  go_enter Tryz.func4, Tryz.ntmps4
  go_wp2_with fail
  refine hkn.mono ?_
  rintro e w1 ⟨rfl, b1⟩
  clear hkn
  by_cases hl20 : 30 < l.length
  · clear hs
    go_wp2
    go_ret
    exact ⟨rfl, b1⟩
  · by_cases hx6 : 60 < x.length
    · clear hs
      go_wp2
      go_ret
      exact ⟨rfl, b1⟩
    · have hnew := new_any w1
      have HSS := hide hs
      have hl21 : l.length ≤ 30 := by omega
      have hx7 : x.length ≤ 60 := by omega
      clear hl20 hs hx6
      go_wp2_with fail
      refine hnew.mono ?_
      rintro e w2 hn2
      have f2 := FB.new hn2
      obtain ⟨rfl, _, b2⟩ := hn2
      have HF2 := hide f2
      have HB2 := hide b2
      have HB1 := hide b1
      have hz1 := b1.size
      have hz2 := b2.size
      have hlt2 : w1.heap.size < w2.heap.size := by obtain ⟨mb, h1, _⟩ := f2; exact h1.lt
      clear hnew f2 b2 b1
      go_wp2
      have hba := al1 w2 (.cells #[.slice none 0 0, .slice none 0 0] 40)
      have HR0 : Hid (RO w1.heap.size (w2.alloc (.cells #[.slice none 0 0, .slice none 0 0] 40)) w2.heap.size (.slice none 0 0) (.slice none 0 0) []) := hide ⟨heap_alloc_new _ _, ownN_nil _ _, ownN_nil _ _, fun k e => by simp [Value.ownBlock] at e, hz2, List.Pairwise.nil, fun y hy => by simp at hy⟩
      have HF0 := hide (HF2.out.later hba)
      have HB0 : Hid (Below w1.heap.size w1 (w2.alloc (.cells #[.slice none 0 0, .slice none 0 0] 40))) := hide (HB2.out.trans (hba.mono hz2))
      have HAr : Hid (∀ W, Below w1.heap.size w1 W → AF W) := hide (fun W hW => HA.out.later (HB1.out.trans (hW.mono hz1)))
      clear HF2 hba
      go_loopw [7] (fun u wr => ∃ (i : Nat) (L : Row) (vT vN : Value), u = .int .i64 (i : Int) ∧ i ≤ l.length ∧ L.length ≤ i ∧ Hid (FB w1.heap.size wr w1.heap.size L) ∧ Hid (RO w1.heap.size wr w2.heap.size vT vN L) ∧ Hid (Below w1.heap.size w1 wr)) (fun u _ => l.length - (intOf u).toNat)
      case atStart => exact ⟨0, [], _, _, rfl, by omega, by simp, HF0, HR0, HB0⟩
      case round =>
        obtain ⟨i, L, vT, vN, rfl, hi, hLi, HF, HR, HB⟩ := hrel
        have hwz := HB.out.size
        by_cases hlt : i < l.length
        · obtain ⟨sb, sof, rfl, hrd⟩ := HSS.out (by omega)
          have hrw : RdS wr sb sof l := hrd.later (HB1.out.trans (HB.out.mono hz1))
          obtain ⟨c0, c1, c2, ht63, hp63⟩ := hrw.2 i hlt
          have HI : Hid (l[i]? = some l[i]) := hide (List.getElem?_eq_getElem hlt)
          generalize l[i] = st at *
          obtain ⟨d, t, p⟩ := st
          simp only at c0 c1 c2 ht63 hp63
          have hst : (⟨t.toArray⟩ : ByteArray).size = t.length := by simp [ByteArray.size]
          have hsp : (⟨p.toArray⟩ : ByteArray).size = p.length := by simp [ByteArray.size]
          clear hrw hrd HI
          have hba := al1 wr (.cells #[.bool d, tx t, tx p] 29)
          have HB3 : Hid (Below w1.heap.size w1 (wr.alloc (.cells #[.bool d, tx t, tx p] 29))) := hide (HB.out.trans (hba.mono hwz))
          have HF3 := hide (HF.out.later hba)
          have HR3 := hide (HR.out.later hba)
          have hz3 := HB3.out.size
          have HX3 : Hid ((wr.alloc (.cells #[.bool d, tx t, tx p] 29)).heap[wr.heap.size]? = some (.cells #[.bool d, tx t, tx p] 29)) := hide (heap_alloc_new _ _)
          have hdl := len_del L t
          have hsl := setM_len L t p
          clear hba
          by_cases ht6 : 60 < t.length
          · unfold tx at *
            go_wp2
            go_ret
            exact ⟨rfl, HB1.out.trans (HB3.out.mono hz1)⟩
          by_cases hp6 : 60 < p.length
          · unfold tx at *
            go_wp2
            go_ret
            exact ⟨rfl, HB1.out.trans (HB3.out.mono hz1)⟩
          have ht7 : t.length ≤ 60 := by omega
          have hp7 : p.length ≤ 60 := by omega
          cases d with
          | true =>
            unfold tx at *
            go_wp2
            refine plays13 _ _ rfl rfl rfl rfl HF3.out HR3.out hz3 (by omega) HX3.out ht7 (fun _ _ _ _ _ h => h) ?_
            rintro W4 f4 ⟨vT4, vN4, r4⟩ b4
            have hb4 : Below w1.heap.size w1 W4 := HB3.out.trans b4
            have hal := alike_any f4 r4 (by omega) (HAr.out W4 hb4) x hx7
            have HF4 := hide f4
            have HR4 := hide r4
            have HB4 := hide hb4
            clear f4 r4 b4 hb4
            unfold tx at *
            simp only [Reg.ov, Act.put, List.setIfInBounds_toArray, List.set_cons_succ, List.set_cons_zero]
            generalize (if has L t = true then (0 : Int) else 240) = cc
            go_wp2_with fail
            refine hal.mono ?_
            rintro e W5 ⟨rfl, b5⟩
            have HF5 := hide (HF4.out.later b5)
            have HR5 := hide (HR4.out.later b5)
            have HB5 : Hid (Below w1.heap.size w1 W5) := hide (HB4.out.trans (b5.mono HB4.out.size))
            clear hal b5
            go_wp2
            go_roundw
            case rel => exact ⟨i + 1, _, _, _, by go_num, by omega, by omega, HF5, HR5, HB5⟩
            case measure => simp [intOf]; omega
          | false =>
            unfold tx at *
            go_wp2
            refine plays15 _ _ rfl rfl rfl rfl HF3.out HR3.out hz3 (by omega) HX3.out ht7 hp7 (HAr.out _ HB3.out) (fun _ _ _ _ _ h => h) ?_
            rintro W4 f4 ⟨vT4, vN4, r4⟩ b4
            have hb4 : Below w1.heap.size w1 W4 := HB3.out.trans b4
            have hal := alike_any f4 r4 (by omega) (HAr.out W4 hb4) x hx7
            have HF4 := hide f4
            have HR4 := hide r4
            have HB4 := hide hb4
            clear f4 r4 b4 hb4
            unfold tx at *
            simp only [Reg.ov, Act.put, List.setIfInBounds_toArray, List.set_cons_succ, List.set_cons_zero]
            generalize (if G.isT t = true ∧ (p = [] ∨ G.isT p = true) then (0 : Int) else 100) = cc
            go_wp2_with fail
            refine hal.mono ?_
            rintro e W5 ⟨rfl, b5⟩
            have HF5 := hide (HF4.out.later b5)
            have HR5 := hide (HR4.out.later b5)
            have HB5 : Hid (Below w1.heap.size w1 W5) := hide (HB4.out.trans (b5.mono HB4.out.size))
            clear hal b5
            go_wp2
            go_roundw
            case rel => exact ⟨i + 1, _, _, _, by go_num, by omega, by omega, HF5, HR5, HB5⟩
            case measure => simp [intOf]; omega
        · have hcp := copyFB HF.out
          clear HSS
          go_wp2_with fail
          refine hcp.mono ?_
          rintro e W4 ⟨c, rfl, f4, b4⟩
          have hb4 : Below w1.heap.size w1 W4 := HB.out.trans (b4.mono hwz)
          have hset := setT f4 b4.size [122, 122] [] (by decide) (by decide) (by omega) (HAr.out W4 hb4)
          have HF4 := hide (HF.out.later b4)
          have HR4 := hide (HR.out.later b4)
          have HB4 := hide hb4
          have HBW := hide b4
          clear hcp f4 b4 hb4
          unfold tx at *
          go_wp2_with fail
          refine hset.mono ?_
          rintro e W5 ⟨rfl, f5, b5, k5⟩
          have b45 : Below wr.heap.size wr W5 := HBW.out.trans b5
          have hb5 : Below w1.heap.size w1 W5 := HB.out.trans (b45.mono hwz)
          have hal := alike_any (HF.out.later b45) (HR.out.later b45) (by omega) (HAr.out W5 hb5) x hx7
          have HB5 := hide hb5
          clear hset f5 b5 k5 b45 hb5
          unfold tx at *
          go_wp2_with fail
          refine hal.mono ?_
          rintro e W6 ⟨rfl, b6⟩
          have HB6 : Hid (Below w1.heap.size w1 W6) := hide (HB5.out.trans (b6.mono HB5.out.size))
          clear hal b6
          go_wp2
          go_ret
          exact ⟨rfl, HB1.out.trans (HB6.out.mono hz1)⟩
end C
end Go.Proofs.YtbeihgjonhgfmaaGreatDoor
