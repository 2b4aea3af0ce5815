/- known of the law folder; plain facts on roots; TagRoots. -/
import Derived.Laws.BytesArg
import Derived.Lib.SlBytesConst
import Derived.Test.YtdbidfphpnkkhaaDoorTgd
namespace Go.Proofs.YtdbidfphpnkkhaaDoor
open Go.RowKit Go.Shelf

theorem canon_ok {s t : List UInt8} (h : G.canon s = some t) (w : World) (hA : AF w) : Calls Tryd.prog 9 #[tx s] w fun e W' => e = .returned (.tuple #[tx t, .int .i64 0]) ∧ Below w.heap.size w W' := by
  have hl : s.length ≤ 40 := by
    unfold G.canon at h
    split at h
    · cases h
    · omega
  refine (canon_any s (by omega) w hA).mono ?_
  rintro e W' ⟨⟨t', ht, rfl⟩ | ⟨ht, _⟩, hb⟩
  · rw [h] at ht
    cases ht
    exact ⟨rfl, hb⟩
  · rw [h] at ht; cases ht
theorem canon_no {s : List UInt8} (h : G.canon s = none) (hl : s.length ≤ 9223372036854775807) (w : World) (hA : AF w) : Calls Tryd.prog 9 #[tx s] w fun e W' => e = .returned (.tuple #[tx [], .int .i64 100]) ∧ Below w.heap.size w W' := by
  refine (canon_any s hl w hA).mono ?_
  rintro e W' ⟨⟨t', ht, _⟩ | ⟨_, rfl⟩, hb⟩
  · rw [h] at ht; cases ht
  · exact ⟨rfl, hb⟩
set_option maxRecDepth 100000 in
set_option maxHeartbeats 2000000 in
theorem known_any (w : World) (hA : AF w) : Calls Tryd.prog 8 #[] w fun e W' => e = .returned (.bool true) ∧ Below w.heap.size w W' := by
  have h1 := canon_ok (s := [69, 78, 95, 108, 97, 116, 110, 45, 117, 115]) (t := [101, 110, 45, 76, 97, 116, 110, 45, 85, 83]) (by decide +kernel) w hA
  have h2 := fun W (hW : AF W) => canon_no (s := [101]) (by decide +kernel) (by decide) W hW
  have h3 := fun W (hW : AF W) => parent_any [101, 110, 45, 76, 97, 116, 110, 45, 85, 83] (by decide) W hW
  rw [show G.parent [101, 110, 45, 76, 97, 116, 110, 45, 85, 83] = [101, 110, 45, 76, 97, 116, 110] by decide +kernel] at h3
  have h4 := fun W (hW : AF W) => parent_any [101, 110] (by decide) W hW
  rw [show G.parent [101, 110] = [114, 111, 111, 116] by decide +kernel] at h4
  have h5 := fun W (hW : AF W) => parent_any [114, 111, 111, 116] (by decide) W hW
  rw [show G.parent [114, 111, 111, 116] = [] by decide +kernel] at h5
  have h6 := fun W (hW : AF W) => parts_any [101, 110, 45, 76, 97, 116, 110, 45, 85, 83] (by decide) W hW
  rw [show G.parts [101, 110, 45, 76, 97, 116, 110, 45, 85, 83] = [[101, 110], [76, 97, 116, 110], [85, 83]] by decide +kernel] at h6
  have HA := hide hA
  clear hA
  unfold tx at *
  go_enter Tryd.func8, Tryd.ntmps8
  go_wp2_with fail
  refine h1.mono ?_
  rintro e w1 ⟨rfl, b1⟩
  have a1 := HA.out.later b1
  go_wp2_with fail
  refine (h2 w1 a1).mono ?_
  rintro e w2 ⟨rfl, b2⟩
  have b2' := nx b1 b2
  have A2 := hide (a1.later b2)
  clear h1 h2 b1 b2 a1
  go_wp2_with fail
  refine (h3 w2 A2.out).mono ?_
  rintro e w3 ⟨rfl, b3⟩
  have A3 := hide (A2.out.later b3)
  have b3' := nx b2' b3
  clear h3 b3 b2' A2
  go_wp2_with fail
  refine (h4 w3 A3.out).mono ?_
  rintro e w4 ⟨rfl, b4⟩
  have A4 := hide (A3.out.later b4)
  have b4' := nx b3' b4
  clear h4 b4 b3' A3
  go_wp2_with fail
  refine (h5 w4 A4.out).mono ?_
  rintro e w5 ⟨rfl, b5⟩
  have A5 := hide (A4.out.later b5)
  have b5' := nx b4' b5
  clear h5 b5 b4' A4
  go_wp2_with fail
  refine (h6 w5 A5.out).mono ?_
  rintro e w6 ⟨u, rfl, ho, b6⟩
  obtain ⟨ao, cap, rfl, _, _⟩ := ho.rd
  have b6' := nx b5' b6
  clear h6 b6 b5' A5 ho
  simp only [List.length_cons, List.length_nil]
  go_wp2
  go_ret
  exact ⟨rfl, b6'⟩
/-- string(b) of a row of four. -/
theorem conv4 {w : World} {g : Nat} {a b c d : UInt8} (h : w.heap[g]? = some (.cells #[U8 a, U8 b, U8 c, U8 d] 5 (4, 5))) : (convert 36 9 (.slice (some ⟨g, 0, none⟩) 4 4)).run Tryd.prog w = .ok (.string ⟨#[a, b, c, d]⟩) w := by
  have := run_convert_bytes_arg (P := Tryd.prog) (w := w) 36 5 Tryd.underlying36 Tryd.underlying5 g 0 4 4 ([a, b, c, d].map fun c => (c.toNat : Int)) (by simp) (fun i hi => by
    match i, hi with
    | 0, _ => simp [World.cell?, h]
    | 1, _ => simp [World.cell?, h]
    | 2, _ => simp [World.cell?, h]
    | 3, _ => simp [World.cell?, h]) 9 Tryd.underlying9
  rw [this]
  simp [strOfNums]
/-- Between the rounds: a row of root's letters, of either case; from a place on they are small. -/
def RtO (w : World) (g i : Nat) (A : World) : Prop := ∃ a b c d : UInt8, A.heap[g]? = some (.cells #[U8 a, U8 b, U8 c, U8 d] 5 (4, 5)) ∧ [a, b, c, d].map G.lo = G.rootB ∧ (i ≤ 0 → a = 114) ∧ (i ≤ 1 → b = 111) ∧ (i ≤ 2 → c = 111) ∧ (i ≤ 3 → d = 116) ∧ Below w.heap.size w A
theorem root_us {l : List UInt8} (h : l.map G.lo = G.rootB) : G.canon (l ++ [45, 85, 83]) = none := by
  have hn := G.map_nosep h
  have hl : l.length = 4 := by have := congrArg List.length h; rw [List.length_map] at this; exact this
  unfold G.canon
  rw [if_neg (by simp; omega), if_neg (fun e => by have := congrArg List.length e; simp [G.rootB] at this; omega), G.cut_at hn (by rfl)]
  have : G.kind 0 l = 0 := by
    unfold G.kind G.lang G.run
    rw [if_pos rfl, decide_eq_false (show ¬ l.length ≤ 3 by omega)]
    simp
  rw [G.walk, if_pos this]
  rfl
theorem roots_law {t : List UInt8} (h : G.isT t = true) (hr : t ≠ G.rootB) : (G.parent t == G.rootB) = decide ((G.parts t).length = 1) := by
  obtain ⟨ps, hp, rfl, hl, hc⟩ := G.isT_cases h hr
  rw [show G.parts (G.join ps) = ps by unfold G.parts; rw [if_pos h, hc]]
  obtain ⟨x, xs, rfl, _⟩ := hp.first
  cases hxs : (x :: xs).reverse with
  | nil => simp at hxs
  | cons p qs =>
    have e : x :: xs = qs.reverse ++ [p] := by
      have := congrArg List.reverse hxs
      rw [List.reverse_reverse] at this
      rw [this]; simp
    rw [e] at hp hl ⊢
    by_cases hq : qs.reverse = []
    · rw [hq] at hp hl ⊢
      rw [List.nil_append] at hp hl ⊢
      rw [G.parent_one hp hl]
      rfl
    · obtain ⟨h1, h2, h3⟩ := G.parent_more hq hp hl
      rw [h1]
      have hn := h2.neroot
      have : qs.reverse.length ≠ 0 := fun h0 => hq (List.eq_nil_of_length_eq_zero h0)
      rw [decide_eq_false (by rw [List.length_append]; simp; simpa using this)]
      exact beq_eq_false_iff_ne.2 hn
set_option maxRecDepth 100000 in
set_option maxHeartbeats 4000000 in
theorem roots_any (m : UInt8) (s : List UInt8) (hs : s.length ≤ 9223372036854775807) (w : World) (hA : AF w) : Calls Tryd.prog 7 #[U8 m, tx s] w fun e W' => e = .returned (.bool true) ∧ Below w.heap.size w W' := by
  have hm := m.toNat_lt
  have hk := known_any w hA
  have HA := hide hA
  clear hA
  unfold U8 tx at *
  go_enter Tryd.func7, Tryd.ntmps7
  go_wp2_with fail
  refine hk.mono ?_
  rintro e w1 ⟨rfl, b1⟩
  clear hk
  have hcv := Lib.run_convert_bytes_const (P := Tryd.prog) w1 36 5 #[.int .u8 114, .int .u8 111, .int .u8 111, .int .u8 116] 4 4 Tryd.underlying36 Tryd.underlying5
  have a1 := al1 w1 (.cells #[.int .u8 114, .int .u8 111, .int .u8 111, .int .u8 116] 5 (4, 5))
  have n1 := heap_alloc_new w1 (.cells #[.int .u8 114, .int .u8 111, .int .u8 111, .int .u8 116] 5 (4, 5))
  have HR : Hid (RtO w w1.heap.size 0 (w1.alloc (.cells #[.int .u8 114, .int .u8 111, .int .u8 111, .int .u8 116] 5 (4, 5)))) := hide ⟨114, 111, 111, 116, n1, by decide +kernel, fun _ => rfl, fun _ => rfl, fun _ => rfl, fun _ => rfl, nx b1 a1⟩
  have elz : ∀ W : World, (sizeOf (Tryd.prog.elem 36)).run Tryd.prog W = .ok 1 W := fun W => by kernel_rfl
  clear a1 n1
  go_wp2
  go_loopw [6] (fun u wr => ∃ i : Nat, u = .int .i64 (i : Int) ∧ i ≤ 4 ∧ Hid (RtO w w1.heap.size i wr)) (fun u _ => 4 - (intOf u).toNat)
  case atStart => exact ⟨0, rfl, by omega, HR⟩
  case round =>
    obtain ⟨i, rfl, hi4, HRi⟩ := hrel
    obtain ⟨a, b, c, d, hh, hm4, p0, p1, p2, p3, hb⟩ := HRi.out
    clear HRi HR hcv
    by_cases hlt : i < 4
    · match i, hlt with
      | 0, hi4 =>
        obtain rfl := p0 (by omega)
        have cc : wr.cell? ⟨w1.heap.size, 0, none⟩ = some (.int .u8 114) := by simp [World.cell?, hh]
        have cf : wr.frozen? ⟨w1.heap.size, 0, none⟩ = false := by simp [World.frozen?, hh]
        have hs2 : (wr.setCell ⟨w1.heap.size, 0, none⟩ (.int .u8 82)).heap[w1.heap.size]? = some (.cells #[U8 82, U8 b, U8 c, U8 d] 5 (4, 5)) := by simp [World.setCell, Array.getElem?_modify, hh]
        have HB2 : Hid (Below w.heap.size w (wr.setCell ⟨w1.heap.size, 0, none⟩ (.int .u8 82))) := hide (hb.setCell (p := ⟨w1.heap.size, 0, none⟩) (by show w.heap.size ≤ w1.heap.size; exact b1.size) _)
        have HR0 : Hid (RtO w w1.heap.size 1 wr) := hide ⟨_, _, _, _, hh, hm4, fun h => by omega, fun _ => p1 (by omega), fun _ => p2 (by omega), fun _ => p3 (by omega), hb⟩
        have HR1 : Hid (RtO w w1.heap.size 1 (wr.setCell ⟨w1.heap.size, 0, none⟩ (.int .u8 82))) := hide ⟨_, _, _, _, hs2, hm4, fun h => by omega, fun _ => p1 (by omega), fun _ => p2 (by omega), fun _ => p3 (by omega), HB2.out⟩
        clear hh hm4 p0 p1 p2 p3 hb hs2
        simp only [show ((0 : Nat) : Int) = 0 from rfl]
        go_wp2
        · go_roundw
          case rel => exact ⟨1, rfl, by omega, HR1⟩
          case measure => simp [intOf]
        · go_roundw
          case rel => exact ⟨1, rfl, by omega, HR0⟩
          case measure => simp [intOf]
      | 1, hi4 =>
        obtain rfl := p1 (by omega)
        have cc : wr.cell? ⟨w1.heap.size, 1, none⟩ = some (.int .u8 111) := by simp [World.cell?, hh]
        have cf : wr.frozen? ⟨w1.heap.size, 1, none⟩ = false := by simp [World.frozen?, hh]
        have hs2 : (wr.setCell ⟨w1.heap.size, 1, none⟩ (.int .u8 79)).heap[w1.heap.size]? = some (.cells #[U8 a, U8 79, U8 c, U8 d] 5 (4, 5)) := by simp [World.setCell, Array.getElem?_modify, hh]
        have HB2 : Hid (Below w.heap.size w (wr.setCell ⟨w1.heap.size, 1, none⟩ (.int .u8 79))) := hide (hb.setCell (p := ⟨w1.heap.size, 1, none⟩) (by show w.heap.size ≤ w1.heap.size; exact b1.size) _)
        have HR0 : Hid (RtO w w1.heap.size 2 wr) := hide ⟨_, _, _, _, hh, hm4, fun h => by omega, fun h => by omega, fun _ => p2 (by omega), fun _ => p3 (by omega), hb⟩
        have HR1 : Hid (RtO w w1.heap.size 2 (wr.setCell ⟨w1.heap.size, 1, none⟩ (.int .u8 79))) := hide ⟨_, _, _, _, hs2, hm4, fun h => by omega, fun h => by omega, fun _ => p2 (by omega), fun _ => p3 (by omega), HB2.out⟩
        clear hh hm4 p0 p1 p2 p3 hb hs2
        simp only [show ((1 : Nat) : Int) = 1 from rfl]
        go_wp2
        · go_roundw
          case rel => exact ⟨2, rfl, by omega, HR1⟩
          case measure => simp [intOf]
        · go_roundw
          case rel => exact ⟨2, rfl, by omega, HR0⟩
          case measure => simp [intOf]
      | 2, hi4 =>
        obtain rfl := p2 (by omega)
        have cc : wr.cell? ⟨w1.heap.size, 2, none⟩ = some (.int .u8 111) := by simp [World.cell?, hh]
        have cf : wr.frozen? ⟨w1.heap.size, 2, none⟩ = false := by simp [World.frozen?, hh]
        have hs2 : (wr.setCell ⟨w1.heap.size, 2, none⟩ (.int .u8 79)).heap[w1.heap.size]? = some (.cells #[U8 a, U8 b, U8 79, U8 d] 5 (4, 5)) := by simp [World.setCell, Array.getElem?_modify, hh]
        have HB2 : Hid (Below w.heap.size w (wr.setCell ⟨w1.heap.size, 2, none⟩ (.int .u8 79))) := hide (hb.setCell (p := ⟨w1.heap.size, 2, none⟩) (by show w.heap.size ≤ w1.heap.size; exact b1.size) _)
        have HR0 : Hid (RtO w w1.heap.size 3 wr) := hide ⟨_, _, _, _, hh, hm4, fun h => by omega, fun h => by omega, fun h => by omega, fun _ => p3 (by omega), hb⟩
        have HR1 : Hid (RtO w w1.heap.size 3 (wr.setCell ⟨w1.heap.size, 2, none⟩ (.int .u8 79))) := hide ⟨_, _, _, _, hs2, hm4, fun h => by omega, fun h => by omega, fun h => by omega, fun _ => p3 (by omega), HB2.out⟩
        clear hh hm4 p0 p1 p2 p3 hb hs2
        simp only [show ((2 : Nat) : Int) = 2 from rfl]
        go_wp2
        · go_roundw
          case rel => exact ⟨3, rfl, by omega, HR1⟩
          case measure => simp [intOf]
        · go_roundw
          case rel => exact ⟨3, rfl, by omega, HR0⟩
          case measure => simp [intOf]
      | 3, hi4 =>
        obtain rfl := p3 (by omega)
        have cc : wr.cell? ⟨w1.heap.size, 3, none⟩ = some (.int .u8 116) := by simp [World.cell?, hh]
        have cf : wr.frozen? ⟨w1.heap.size, 3, none⟩ = false := by simp [World.frozen?, hh]
        have hs2 : (wr.setCell ⟨w1.heap.size, 3, none⟩ (.int .u8 84)).heap[w1.heap.size]? = some (.cells #[U8 a, U8 b, U8 c, U8 84] 5 (4, 5)) := by simp [World.setCell, Array.getElem?_modify, hh]
        have HB2 : Hid (Below w.heap.size w (wr.setCell ⟨w1.heap.size, 3, none⟩ (.int .u8 84))) := hide (hb.setCell (p := ⟨w1.heap.size, 3, none⟩) (by show w.heap.size ≤ w1.heap.size; exact b1.size) _)
        have HR0 : Hid (RtO w w1.heap.size 4 wr) := hide ⟨_, _, _, _, hh, hm4, fun h => by omega, fun h => by omega, fun h => by omega, fun h => by omega, hb⟩
        have HR1 : Hid (RtO w w1.heap.size 4 (wr.setCell ⟨w1.heap.size, 3, none⟩ (.int .u8 84))) := hide ⟨_, _, _, _, hs2, hm4, fun h => by omega, fun h => by omega, fun h => by omega, fun h => by omega, HB2.out⟩
        clear hh hm4 p0 p1 p2 p3 hb hs2
        simp only [show ((3 : Nat) : Int) = 3 from rfl]
        go_wp2
        · go_roundw
          case rel => exact ⟨4, rfl, by omega, HR1⟩
          case measure => simp [intOf]
        · go_roundw
          case rel => exact ⟨4, rfl, by omega, HR0⟩
          case measure => simp [intOf]
    · obtain rfl : i = 4 := by omega
      have hab := HA.out.later hb
      have hz4 : w1.heap.size < wr.heap.size := (Array.getElem?_eq_some_iff.1 hh).1
      have hc1 := conv4 hh
      have hk1 := canon_ok (s := [a, b, c, d]) (t := G.rootB) (by unfold G.canon; rw [if_neg (by simp), if_pos hm4]) wr hab
      have hk2 := fun W (hW : AF W) => canon_no (root_us hm4) (by simp) W hW
      have hca : (⟨#[a, b, c, d]⟩ : ByteArray) ++ ⟨#[45, 85, 83]⟩ = ⟨([a, b, c, d] ++ [45, 85, 83]).toArray⟩ := add_tx [a, b, c, d] [45, 85, 83]
      have hsz : (⟨([a, b, c, d] ++ [45, 85, 83]).toArray⟩ : ByteArray).size = 7 := rfl
      have hk3 := fun W (hW : AF W) => canon_any s hs W hW
      have hp1 := fun W (hW : AF W) => parent_any G.rootB (by decide) W hW
      rw [G.parent_root] at hp1
      have hi1 := fun W (hW : AF W) => is_any G.rootB (by decide) W hW
      rw [G.root_isT] at hi1
      have HH := hide hh
      have HB := hide hb
      generalize hcat : [a, b, c, d] ++ [45, 85, 83] = cat at *
      clear hcat hh hm4 p0 p1 p2 p3 hb
      unfold tx G.rootB at *
      go_wp2_with fail
      refine hk1.mono ?_
      rintro e w2 ⟨rfl, b2⟩
      have hh2 := (b2.block _ hz4).trans HH.out
      have hc2 := conv4 hh2
      have A2 := hide (hab.later b2)
      have B2 := hide (nx HB.out b2)
      clear b2 hh2 hk1 hc1 HB HH hab
      go_wp2_with fail
      refine (hk2 w2 A2.out).mono ?_
      rintro e w3 ⟨rfl, b3⟩
      have A3 := hide (A2.out.later b3)
      have B3 := hide (nx B2.out b3)
      clear b3 hc2 A2 B2 hk2
      go_wp2_with fail
      refine (hk3 w3 A3.out).mono ?_
      rintro e w4 ⟨hans, b4⟩
      have A4 := hide (A3.out.later b4)
      have B4 := hide (nx B3.out b4)
      clear b4 A3 B3 hk3
      rcases hans with ⟨t, ht, rfl⟩ | ⟨ht, rfl⟩
      · have hT := G.isT_canon ht
        have htl : t.length ≤ 40 := by
          rcases G.canon_cases ht with h | ⟨_, _, _, h, _⟩
          · rw [h]; decide
          · exact h
        clear ht
        go_wp2_with fail
        refine (hp1 w4 A4.out).mono ?_
        rintro e w5 ⟨rfl, b5⟩
        have A5 := hide (A4.out.later b5)
        have B5 := hide (nx B4.out b5)
        clear b5 A4 B4 hp1
        go_wp2_with fail
        refine (hi1 w5 A5.out).mono ?_
        rintro e w6 ⟨rfl, b6⟩
        have A6 := hide (A5.out.later b6)
        have B6 := hide (nx B5.out b6)
        clear b6 A5 B5 hi1
        by_cases hr : t = G.rootB
        · have e1 : (t == [114, 111, 111, 116]) = true := by rw [hr]; rfl
          clear hr hT
          go_wp2
          go_ret
          exact ⟨rfl, B6.out⟩
        · have e1 : (t == [114, 111, 111, 116]) = false := beq_eq_false_iff_ne.2 hr
          have HLW := hide (roots_law hT hr)
          have hp2 := parent_any t (by omega) w6 A6.out
          have hq2 := fun W (hW : AF W) => parts_any t (by omega) W hW
          clear hr hT
          unfold tx G.rootB at *
          generalize G.parent t = pt at *
          generalize G.parts t = qt at *
          go_wp2_with fail
          refine hp2.mono ?_
          rintro e w7 ⟨rfl, b7⟩
          have A7 := hide (A6.out.later b7)
          have B7 := hide (nx B6.out b7)
          clear b7 A6 B6 hp2
          go_wp2_with fail
          refine (hq2 w7 A7.out).mono ?_
          rintro e w8 ⟨u, rfl, ho, b8⟩
          obtain ⟨ao, cap, rfl, _, _⟩ := ho.rd
          have B8 := hide (nx B7.out b8)
          clear b8 A7 B7 hq2 ho
          cases hd : decide (qt.length = 1) with
          | true =>
            have h1 : qt.length = 1 := of_decide_eq_true hd
            have e2 : (pt == [114, 111, 111, 116]) = true := by rw [HLW.out, hd]
            have e3 : ((qt.length : Int) == 1) = true := by rw [h1]; rfl
            clear hd h1 HLW
            go_wp2
            go_ret
            exact ⟨rfl, B8.out⟩
          | false =>
            have h1 : ¬ qt.length = 1 := of_decide_eq_false hd
            have e2 : (pt == [114, 111, 111, 116]) = false := by rw [HLW.out, hd]
            have e3 : ((qt.length : Int) == 1) = false := by simp; omega
            clear hd h1 HLW
            go_wp2
            go_ret
            exact ⟨rfl, B8.out⟩
      · clear ht
        unfold tx
        go_wp2_with fail
        refine (hp1 w4 A4.out).mono ?_
        rintro e w5 ⟨rfl, b5⟩
        have A5 := hide (A4.out.later b5)
        have B5 := hide (nx B4.out b5)
        clear b5 A4 B4 hp1
        go_wp2_with fail
        refine (hi1 w5 A5.out).mono ?_
        rintro e w6 ⟨rfl, b6⟩
        have B6 := hide (nx B5.out b6)
        clear b6 A5 B5 hi1
        go_wp2
        go_ret
        exact ⟨rfl, B6.out⟩
end Go.Proofs.YtdbidfphpnkkhaaDoor
