/- What crc.appendNumber and crc.readNumber answer at two bytes' numbers, and what crc.Text and crc.GetText answer. -/
import Derived.Test.YtnkdlnphmfbagaaDoorKnown
import Derived.Lib.AppendStr
import Derived.Deep.QuietTactic
import Derived.BigQuiet
namespace Go.Proofs.YtnkdlnphmfbagaaDoor
open Go.RowKit

set_option maxHeartbeats 400000 in
theorem app16_any (v : Value) (n : Nat) (_hn : n < 65536) (W : Nat) (hW : W ≤ 2) (B : Nat) (bs : List UInt8) (hl : bs.length ≤ 1000000) (w : World)
    (hB : B ≤ w.heap.size) (ho : Own w B v bs) :
    Calls Tryd.prog 26 #[v, .int .u16 n, .int .i64 W] w fun e w' => ∃ v', e = .returned v' ∧ Own w' B v' (bs ++ M.le n W) ∧ Below B w w' := by
  obtain ⟨i0, hi, hz0, hz1, hz2⟩ := info_parts Tryd.info5
  go_enter Tryd.func26, Tryd.ntmps26
  go_wp2
  go_loopw [0, 9] (fun v i wr => ∃ k : Nat, k ≤ W ∧ i = .int .i64 k ∧ Own wr B v (bs ++ M.le n k) ∧ Below B w wr) (fun _ i _ => W - (intOf i).toNat)
  case atStart => exact ⟨0, Nat.zero_le _, rfl, by simpa [M.le] using ho, Below.refl _ _⟩
  case round =>
    obtain ⟨k, hk, rfl, hown, hb⟩ := hrel
    by_cases hlt : k < W
    · have hsz : B ≤ wr.heap.size := Nat.le_trans hB hb.size
      have e1 := M.w_dig n k
      have HS : Hid (bs ++ M.le n (k + 1) = (bs ++ M.le n k) ++ [M.dig n k]) := by rw [M.le_succ, ← List.append_assoc]; exact rfl
      have hzl : (bs ++ M.le n k).length ≤ 2000000 := by rw [List.length_append, M.le_length]; omega
      generalize bs ++ M.le n k = zs at *
      have hown' : wr.ownsRow B 5 1 u0 zs.length (cellsOf zs) := hown
      go_wp2_with (at_builtin; refine wpList_append_own _ rfl (.tmp 12) (.tmp 18) 22 rfl B 5 i0 (.int .u8 0) 1 1 Tryd.underlying22 hi hz0 hz1 hz2 rfl (by decide) u0 zs.length (cellsOf zs) rfl (hown'.alloc _) ⟨wr.heap.size, 0, none⟩ 1 1 [.int .u8 ((M.dig n k).toNat : Int)] rfl rfl (cell_one_new _ _ _) ?_ ?_ ?_ ?_ ?_)
      · intro u hu; simp at hu; subst hu; rfl
      · unfold maxLen; omega
      · omega
      · simp; omega
      · intro v' w1 hown1 hgrow1 _
        have R : Own w1 B v' (zs ++ [M.dig n k]) := by unfold Own; rw [← cellsOf_snoc, List.length_append]; exact hown1
        have hb1 : Below B w w1 := by
          refine (hb.alloc hsz _).grown hgrow1 (by simp; omega) ?_
          intro g hg
          obtain ⟨_, ⟨rfl, _⟩ | ⟨g', cap', cur', rfl, hg', _⟩⟩ := hown'
          · simp [Value.ownBlock] at hg
          · simp [Value.ownBlock] at hg; omega
        clear hown1 hgrow1 hown hown' hb
        go_wp2
        go_roundw
        case rel => exact ⟨k + 1, by omega, by go_num, by rw [HS.out]; exact R, hb1⟩
        case measure => simp [intOf]; omega
    · have hkW : Hid (k = W) := by show k = W; omega
      go_wp2
      go_ret
      exact ⟨u0, rfl, by rw [← hkW.out]; exact hown, hb⟩

set_option maxHeartbeats 400000 in
theorem read16_any (ao : Option Addr) (cap : Nat) (bs : List UInt8) (w : World) (hl : bs.length ≤ 2) (hc : Rd w ao bs) :
    Calls Tryd.prog 27 #[.slice ao bs.length cap] w fun e w' => e = .returned (.int .u16 (M.num bs : Nat)) ∧ w = w' := by
  go_enter Tryd.func27, Tryd.ntmps27
  go_wp2
  go_loop [3, 8] (fun r i => ∃ k : Nat, k ≤ bs.length ∧ i = .int .i64 k ∧ r = .int .u16 (M.num (bs.take k) : Nat)) (fun _ i => bs.length - (intOf i).toNat)
  case atStart => exact ⟨0, Nat.zero_le _, rfl, rfl⟩
  case round =>
    obtain ⟨k, hk, rfl, rfl⟩ := hrel
    by_cases hlt : k < bs.length
    · have hq : M.num (bs.take k) < 2 ^ (8 * k) := by have := M.num_lt (bs.take k); rwa [List.length_take, Nat.min_eq_left hk] at this
      have e1 := M.w_or16 (M.num (bs.take k)) k bs[k] (by omega) hq
      have HS : Hid (M.num (bs.take (k + 1)) = M.num (bs.take k) + bs[k].toNat * 2 ^ (8 * k)) := M.num_take bs k hlt
      obtain ⟨b, off, rfl, hcell⟩ := hc k hlt
      clear hc hq
      generalize M.num (bs.take k) + bs[k].toNat * 2 ^ (8 * k) = q1 at *
      generalize M.num (bs.take k) = q at *
      generalize bs[k] = c at *
      go_wp2
      go_round
      case rel => exact ⟨k + 1, by omega, by go_num, by rw [HS.out]⟩
      case measure => simp [intOf]; omega
    · have HT : Hid (bs.take k = bs) := List.take_of_length_le (by omega)
      go_wp2
      go_ret
      exact ⟨ret_int (by rw [HT.out]), rfl⟩

theorem strCells_of (s : ByteArray) : Lib.strCells s = cellsOf s.data.toList := rfl

set_option maxHeartbeats 400000 in
theorem text_any (ao : Option Addr) (cap : Nat) (bs : List UInt8) (s : ByteArray) (w : World) (hl : bs.length ≤ 100000) (hs : s.size ≤ 60000) (hc : Rd w ao bs) :
    Calls Tryd.prog 17 #[.slice ao bs.length cap, .string s] w fun e w' => ∃ ao' cap' zs, zs = bs ++ M.le s.size 2 ++ s.data.toList ∧ e = .returned (.slice ao' zs.length cap') ∧
      zs.length ≤ cap' ∧ Own w' w.heap.size (.slice ao' zs.length cap') zs ∧ Rd w' ao' zs ∧ Below w.heap.size w w' := by
  obtain ⟨i0, hi, hz0, hz1, hz2⟩ := info_parts Tryd.info5
  have hsl : ∀ wx, (Instr.slice 9 (.string s) none (some (.int .i64 (s.size : Int))) none).run Tryd.prog wx = .ok (.string s) wx := by
    intro wx
    rw [run_slice_string_to_if (P := Tryd.prog) (w := wx) 9 s .i64 (s.size : Int) Tryd.underlying9, if_pos (by omega)]
    simp
  have hcv : IntKind.u16.wrap (s.size : Int) = (s.size : Int) := by rw [IntKind.wrap_u16]; omega
  go_enter Tryd.func17, Tryd.ntmps17
  go_wp2_with fail
  rw [show (2 + (s.size : Int)) = ((2 + s.size : Nat) : Int) from by omega]
  refine (fresh_any ao cap (2 + s.size) bs _ (by omega) (by omega) hc).mono ?_
  rintro e w1 ⟨rfl, ho, hb⟩
  go_wp2_with fail
  refine (app16_any _ s.size (by omega) 2 (by omega) w.heap.size bs (by omega) w1 hb.size ho).mono ?_
  rintro e w2 ⟨v', rfl, ho2, hb2⟩
  obtain ⟨zs, hzs⟩ : ∃ zs, zs = bs ++ M.le s.size 2 := ⟨_, rfl⟩
  rw [← hzs] at ho2
  have hzl : zs.length ≤ 200000 := by rw [hzs, List.length_append, M.le_length]; omega
  have HZ : Hid (zs = bs ++ M.le s.size 2) := hzs
  clear hzs
  have hb3 := hb.trans hb2
  have hsz := hb3.size
  have ho3 : w2.ownsRow w.heap.size 5 1 v' zs.length (cellsOf zs) := ho2
  clear ho hb hb2
  go_wp2_with (at_builtin; refine Lib.wpList_append_own_string _ rfl (.tmp 21) (.tmp 22) 22 9 rfl w.heap.size 5 i0 Tryd.underlying22 Tryd.underlying9 hi hz0 hz1 hz2 v' zs.length (cellsOf zs) rfl ho3 s rfl ?_ ?_ ?_ ?_)
  · unfold maxLen; omega
  · omega
  · omega
  · intro v4 w4 ho4 hg4 _
    obtain ⟨ys, hys⟩ : ∃ ys, ys = zs ++ s.data.toList := ⟨_, rfl⟩
    have R : Own w4 w.heap.size v4 ys := by
      unfold Own
      rw [hys, cellsOf_append, List.length_append, Array.length_toList]
      exact ho4
    have hb4 : Below w.heap.size w w4 := by
      refine hb3.grown hg4 hsz ?_
      intro g hg
      obtain ⟨_, ⟨rfl, _⟩ | ⟨g', cap', cur', rfl, hg', _⟩⟩ := ho3
      · simp [Value.ownBlock] at hg
      · simp [Value.ownBlock] at hg; omega
    have HY : Hid (ys = bs ++ M.le s.size 2 ++ s.data.toList) := by show _ = _; rw [hys, HZ.out]
    clear hys ho4 hg4 ho3 ho2
    obtain ⟨ao', cap', rfl, hle, hrd⟩ := R.rd
    go_wp2
    go_ret
    exact ⟨ao', cap', ys, HY.out, rfl, hle, R, hrd, hb4⟩
end Go.Proofs.YtnkdlnphmfbagaaDoor
