/- PropsTell: its walk. -/
import Derived.Test.YtfbojpodaddaeaaPnm
import Derived.Test.YtfbojpodaddaeaaRefa
namespace Go.Proofs.Ytfbojpodaddaeaa
open Go.RowKit Go.Shelf

theorem rdt_row (w : World) (ss : List ByteArray) (T : TypeId) : RdT (w.alloc (.cells (ss.map Value.string).toArray T)) (some ⟨w.heap.size, 0, none⟩) ss := fun i hi => by
  have hn := World.alloc_heap_new w (.cells (ss.map Value.string).toArray T)
  refine ⟨_, _, rfl, ?_⟩
  rw [Nat.zero_add]
  exact cell_at hn (by simp [hi])
set_option maxRecDepth 100000 in
set_option maxHeartbeats 4000000 in
theorem refNames_any (w : World) : Calls Try.prog 7 #[] w fun e W' => ∃ ao cap, e = .returned (.slice ao 11 cap) ∧ RdT W' ao nm ∧ Below w.heap.size w W' := by
  go_enter Try.func7, Try.ntmps7
  go_wp2
  go_ret
  exact ⟨_, _, rfl, rdt_row w nm 9, al1 w _⟩
theorem idx25 (k : Nat) (hk : k < 2) (a b : ByteArray) (w : World) : (Instr.index 25 (.agg #[.string a, .string b]) (.int .i64 (k : Int))).run Try.prog w = .ok (.string (if k = 0 then a else b)) w :=
  match k, hk with
  | 0, _ => by kernel_rfl
  | 1, _ => by kernel_rfl
  | i + 2, h => absurd h (by omega)
theorem told_true {p : Prop} {e : Ending} (h : Told p e) (hp : p) : e = .returned (.bool true) := by
  obtain ⟨b, rfl, hb⟩ := h
  rw [hb.2 hp]

set_option maxRecDepth 100000 in
set_option maxHeartbeats 8000000 in
theorem ptell_any (nam : ByteArray) (wh : Int) (r : Int) (hw0 : 0 ≤ wh) (hw1 : wh ≤ 255) (w : World) : Calls Try.prog 3 #[.string nam, .int .u8 wh, .int .i32 r] w fun e W' => e = .returned (.bool true) ∧ Below w.heap.size w W' := by
  obtain ⟨i0, hi, hz0, hz1, hz2⟩ := info_parts2 info9
  go_enter Try.func3, Try.ntmps3
  go_wp2_with fail
  refine (known_any w).mono ?_
  rintro e w0 ⟨rfl, hb0⟩
  go_wp2_with fail
  refine (refNames_any w0).mono ?_
  rintro e w1 ⟨al, cl, rfl, hl, hb1⟩
  go_wp2_with fail
  refine (names_any hT_all w1).mono ?_
  rintro e w2 ⟨u, rfl, ho, hb2⟩
  obtain ⟨ag, cg, rfl, _, hg⟩ := ho.rd
  have hl11 : nm.length = 11 := rfl
  rw [hl11]
  clear ho
  replace hl := hl.later hb2
  have B2 := nx (nx hb0 hb1) hb2
  clear hb0 hb1 hb2
  go_wp2
  go_loopw [9] (fun i wr => ∃ k : Nat, i = .int .i64 (k : Int) ∧ k ≤ 11 ∧ Below w2.heap.size w2 wr) (fun i _ => 11 - (intOf i).toNat)
  case atStart => exact ⟨0, rfl, Nat.zero_le _, Below.refl _ _⟩
  case round =>
    obtain ⟨k, rfl, hk, hB⟩ := hrel
    by_cases hlt : k < 11
    · have hkl : k < nm.length := hlt
      obtain ⟨b, off, rfl, hd⟩ := (hl.later hB) k hkl
      obtain ⟨b', off', rfl, hd2⟩ := (hg.later hB) k hkl
      generalize nm[k] = s at *
      have hss : (s.toList != s.toList) = false := by simp
      go_wp2_with fail
      go_quiet (fail)
      go_wp2
      go_roundw
      case rel => exact ⟨k + 1, by go_num, by omega, below_drewN hB nq⟩
      case measure => simp [intOf]; omega
    · obtain rfl : k = 11 := by omega
      replace hl := hl.later hB
      have B3 := nx B2 hB
      clear hg B2 hB
      obtain ⟨q, hq⟩ : ∃ q : Nat, wh % 11 = q ∧ q < 11 := ⟨(wh % 11).toNat, by omega, by omega⟩
      have hqt : wh.tmod 11 = (q : Int) := by rw [Int.tmod_eq_emod_of_nonneg hw0]; exact hq.1
      have hqe := hq.1
      have hql : q < nm.length := hq.2
      obtain ⟨b, off, rfl, hd⟩ := hl q hql
      generalize nm[q] = s at *
      go_wp2_with fail
      clear hq hqt hqe hd
      generalize wr = wa at *
      simp only [show ((11 : Nat) : Int) = 11 from rfl]
      go_loopw [56] (fun i wr => ∃ k : Nat, i = .int .i64 (k : Int) ∧ k ≤ 2 ∧ Below wa.heap.size wa wr) (fun i _ => 2 - (intOf i).toNat)
      case atStart => exact ⟨0, rfl, Nat.zero_le _, Below.refl _ _⟩
      case round =>
        obtain ⟨k, rfl, hk2, hB⟩ := hrel
        by_cases hlt2 : k < 2
        · have hix := idx25 k hlt2 nam s wr
          generalize (if k = 0 then nam else s) = t at *
          have hset := set_any t wr
          have hpr := prop_any t
          have hlen := tl_len t.toList
          generalize tl t.toList = zs at *
          generalize kn t.toList = kk at *
          have hkk : (k : Int) < 2 := by omega
          cases kk with
          | true =>
            have e0 : eNo true = 0 := rfl
            rw [e0] at hset
            clear e0
            go_wp2_with fail
            refine hset.mono ?_
            rintro e w3 ⟨a3, c3, rfl, hr3, _, hb3⟩
            clear hset hix
            go_wp2_with fail
            refine (hpr w3).mono ?_
            rintro e w4 ⟨a4, c4, rfl, hr4, hb4⟩
            go_wp2_with fail
            refine (refSame_any a3 a4 c3 c4 zs zs (by omega) w4 (hr3.later hb4) hr4).mono ?_
            rintro e w5 ⟨hT, hb5⟩
            obtain rfl := told_true hT rfl
            have hB5 := nx (nx (nx hB hb3) hb4) hb5
            clear hT hpr hr3 hr4 hB hb3 hb4 hb5
            go_wp2
            go_roundw
            case rel => exact ⟨k + 1, by go_num, by omega, hB5⟩
            case measure => simp [intOf]; omega
          | false =>
            have e0 : eNo false = 50 := rfl
            rw [e0] at hset
            clear e0
            go_wp2_with fail
            refine hset.mono ?_
            rintro e w3 ⟨a3, c3, rfl, hr3, _, hb3⟩
            clear hset hix
            go_wp2_with fail
            refine (hpr w3).mono ?_
            rintro e w4 ⟨a4, c4, rfl, hr4, hb4⟩
            go_wp2_with fail
            refine (refSame_any a3 a4 c3 c4 zs zs (by omega) w4 (hr3.later hb4) hr4).mono ?_
            rintro e w5 ⟨hT, hb5⟩
            obtain rfl := told_true hT rfl
            have hB5 := nx (nx (nx hB hb3) hb4) hb5
            clear hT hpr hr3 hr4 hB hb3 hb4 hb5
            go_wp2
            go_roundw
            case rel => exact ⟨k + 1, by go_num, by omega, hB5⟩
            case measure => simp [intOf]; omega
        · obtain rfl : k = 2 := by omega
          replace hl := hl.later hB
          have B4 := nx B3 hB
          clear B3 hB
          generalize wr = wb at *
          go_wp2
          simp only [show ((2 : Nat) : Int) = 2 from rfl]
          go_loopw [16, 17] (fun v i wr => ∃ k : Nat, i = .int .i64 (k : Int) ∧ k ≤ 11 ∧ OwnT wr wb.heap.size v ((nm.take k).filter (hb r)) ∧ Below wb.heap.size wb wr) (fun _ i _ => 11 - (intOf i).toNat)
          case atStart => exact ⟨0, rfl, Nat.zero_le _, World.ownsRow_nil _ _ _ _, Below.refl _ _⟩
          case round =>
            obtain ⟨k, rfl, hk3, hO, hB⟩ := hrel
            by_cases hlt3 : k < 11
            · have hkl : k < nm.length := hlt3
              obtain ⟨b1, off1, e1, hd⟩ := (hl.later hB) k hkl
              cases e1
              have HT2 : Hid ((nm.take (k + 1)).filter (hb r) = (nm.take k).filter (hb r) ++ (if hb r nm[k] = true then [nm[k]] else [])) := hide (by
                rw [List.take_succ_eq_append_getElem hkl, List.filter_append]
                congr 1
                by_cases h : hb r nm[k] = true
                · rw [if_pos h, List.filter_cons_of_pos h, List.filter_nil]
                · rw [if_neg h, List.filter_cons_of_neg h, List.filter_nil])
              have hss : ((nm.take k).filter (hb r)).length ≤ 11 := Nat.le_trans (List.length_filter_le _ _) (by rw [List.length_take]; exact Nat.min_le_right _ _)
              have hpr := prop_any nm[k] wr
              have hch : ∀ (ao : Option Addr) (ca : Nat) (w : World), RdR w ao (tl nm[k].toList) → Calls Try.prog 12 #[.slice ao (tl nm[k].toList).length ca, .int .i32 r] w (fun e W' => e = .returned (.bool (S.hB (tl nm[k].toList) r)) ∧ Below w.heap.size w W') := fun ao ca w h => refHas_any ao ca (tl nm[k].toList) r (Nat.le_trans (tl_len _) (by decide)) w h
              have HHB : Hid (hb r nm[k] = S.hB (tl nm[k].toList) r) := hide rfl
              generalize (nm.take k).filter (hb r) = ss at *
              generalize nm[k] = t at *
              rw [← HHB.out] at hch
              clear HHB
              generalize tl t.toList = zs at *
              generalize kn t.toList = kk at *
              go_wp2_with fail
              refine hpr.mono ?_
              rintro e w3 ⟨a3, c3, rfl, hr3, hb3⟩
              clear hpr
              have hO3 : OwnT w3 wb.heap.size _ ss := hO.later hb3
              have hd3 := cell_later hb3 hd
              clear hO hd
              cases hbs : hb r t with
              | true =>
                rw [if_pos hbs] at HT2
                rw [hbs] at hch
                clear hbs
                go_wp2_with fail
                refine (hch a3 c3 w3 hr3).mono ?_
                rintro e w4 ⟨rfl, hb4⟩
                have hO4 : w4.ownsRow wb.heap.size 9 1 _ ss.length (ss.map Value.string) := hO3.later hb4
                have hd4 := cell_later hb4 hd3
                have hB4 := nx (nx hB hb3) hb4
                have hz4 := hB4.size
                clear hch hr3 hd3 hO3 hB hb3 hb4
                go_wp2_with (at_builtin; refine wpList_append_own_at _ rfl _ _ 23 rfl wb.heap.size 9 i0 (.string ByteArray.empty) 1 16 Try.underlying23 hi hz0 hz1 hz2 rfl (by decide) _ _ _ rfl (hO4.alloc _) ⟨w4.heap.size, 0, none⟩ 1 1 [.string t] rfl rfl (one_new _ _ _) (by simp [Value.oneCell']) (by unfold maxLen; omega) (by omega) (by simp; omega) ?_; intro v' w9 hown' hgrow _ hat; obtain ⟨g', cap', rfl⟩ := ownsRow_succ hown')
                refine ⟨⟨k + 1, by go_num, by omega, ?_, ?_⟩, by simp [intOf]; omega⟩
                · rw [HT2.out]
                  unfold OwnT
                  rw [List.map_append, List.length_append]
                  exact hown'
                · exact (hB4.alloc hz4 _).grown hgrow (by simp; omega) fun j ej => OwnT.block (show OwnT w4 wb.heap.size _ ss from hO4) j ej
              | false =>
                rw [if_neg (by rw [hbs]; decide), List.append_nil] at HT2
                rw [hbs] at hch
                clear hbs
                go_wp2_with fail
                refine (hch a3 c3 w3 hr3).mono ?_
                rintro e w4 ⟨rfl, hb4⟩
                have hO4 := hO3.later hb4
                have hB4 := nx (nx hB hb3) hb4
                rw [← HT2.out] at hO4
                clear hch hr3 hd3 hO3 hB hb3 hb4
                go_wp2
                go_roundw
                case rel => exact ⟨k + 1, by go_num, by omega, hO4, hB4⟩
                case measure => simp [intOf]; omega
            · obtain rfl : k = 11 := by omega
              have hO2 : OwnT wr wb.heap.size _ (ofL r) := hO
              obtain ⟨aw, cw, rfl, _, hw⟩ := hO2.rd
              have B5 := nx B4 hB
              clear hO hO2 B4 hB hl
              generalize wr = wc at *
              go_wp2_with fail
              refine (of_any r wc).mono ?_
              rintro e w5 ⟨u, rfl, ho5, hb5⟩
              obtain ⟨a5, c5, rfl, _, hr5⟩ := ho5.rd
              replace hw := hw.later hb5
              have B6 := nx B5 hb5
              have hol : (ofL r).length ≤ 11 := List.length_filter_le _ _
              clear ho5 B5 hb5
              generalize ofL r = ol at *
              have hnn : ((ol.length : Int) != (ol.length : Int)) = false := by simp
              go_wp2
              go_loopw [21] (fun i wr => ∃ k : Nat, i = .int .i64 (k : Int) ∧ k ≤ ol.length ∧ Below w5.heap.size w5 wr) (fun i _ => ol.length - (intOf i).toNat)
              case atStart => exact ⟨0, rfl, Nat.zero_le _, Below.refl _ _⟩
              case round =>
                obtain ⟨k, rfl, hk4, hB⟩ := hrel
                by_cases hlt4 : k < ol.length
                · obtain ⟨b5, off5, rfl, hd⟩ := (hw.later hB) k hlt4
                  obtain ⟨b6, off6, rfl, hd2⟩ := (hr5.later hB) k hlt4
                  generalize ol[k] = t at *
                  have hss : (t.toList != t.toList) = false := by simp
                  clear hw hr5
                  go_wp2_with fail
                  go_quiet (fail)
                  go_wp2
                  go_roundw
                  case rel => exact ⟨k + 1, by go_num, by omega, below_drewN hB nq⟩
                  case measure => simp [intOf]; omega
                · obtain rfl : k = ol.length := by omega
                  go_wp2
                  go_ret
                  exact ⟨rfl, nx B6 hB⟩
end Go.Proofs.Ytfbojpodaddaeaa
