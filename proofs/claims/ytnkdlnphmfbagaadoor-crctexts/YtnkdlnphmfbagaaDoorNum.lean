/- What crc.appendNumber and crc.readNumber answer: a number's lowest bytes, the lowest first, and back. -/
import Derived.Test.YtnkdlnphmfbagaaDoorFresh
namespace Go.Proofs.YtnkdlnphmfbagaaDoor
open Go.RowKit
namespace M
def dig (n i : Nat) : UInt8 := UInt8.ofNat (n / 2 ^ (8 * i) % 256)
theorem dig_nat (n i : Nat) : (dig n i).toNat = n / 2 ^ (8 * i) % 256 := by
  unfold dig
  rw [UInt8.toNat_ofNat']
  omega
def le (n k : Nat) : List UInt8 := (List.range k).map (dig n)
theorem le_length (n k : Nat) : (le n k).length = k := by simp [le]
theorem le_succ (n k : Nat) : le n (k + 1) = le n k ++ [dig n k] := by simp [le, List.range_succ]
theorem w_dig (n k : Nat) : ((n : Int) / 2 ^ (8 * k) % 256) = (((dig n k).toNat : Nat) : Int) := by
  rw [dig_nat, Int.natCast_emod, Int.natCast_ediv, Int.natCast_pow]; rfl
def num : List UInt8 → Nat
  | [] => 0
  | c :: cs => c.toNat + 256 * num cs
theorem num_snoc (c : UInt8) : ∀ bs : List UInt8, num (bs ++ [c]) = num bs + c.toNat * 2 ^ (8 * bs.length)
  | [] => by simp [num]
  | b :: bs => by
    have e : (2 : Nat) ^ (8 * (bs.length + 1)) = 256 * 2 ^ (8 * bs.length) := by rw [Nat.mul_add, Nat.pow_add, Nat.mul_comm]
    rw [List.cons_append, num, num_snoc c bs, num, List.length_cons, e, Nat.mul_add, Nat.add_assoc, Nat.mul_left_comm]
theorem num_lt : ∀ bs : List UInt8, num bs < 2 ^ (8 * bs.length)
  | [] => by simp [num]
  | b :: bs => by
    have e : (2 : Nat) ^ (8 * (bs.length + 1)) = 256 * 2 ^ (8 * bs.length) := by rw [Nat.mul_add, Nat.pow_add, Nat.mul_comm]
    have := num_lt bs
    have hb := b.toNat_lt
    rw [num, List.length_cons, e]
    omega
theorem num_take (bs : List UInt8) (k : Nat) (h : k < bs.length) : num (bs.take (k + 1)) = num (bs.take k) + bs[k].toNat * 2 ^ (8 * k) := by
  rw [List.take_succ_eq_append_getElem h, num_snoc, List.length_take, Nat.min_eq_left (by omega)]
theorem pow_le8 (k : Nat) (h : k < 8) : (2 : Nat) ^ (8 * k) ≤ 72057594037927936 := by
  have := Nat.pow_le_pow_right (n := 2) (by omega) (show 8 * k ≤ 56 by omega)
  simpa using this
theorem pow_le2 (k : Nat) (h : k < 2) : (2 : Nat) ^ (8 * k) ≤ 256 := by
  have := Nat.pow_le_pow_right (n := 2) (by omega) (show 8 * k ≤ 8 by omega)
  simpa using this
theorem or_join (q c k : Nat) (hq : q < 2 ^ (8 * k)) : q ||| c * 2 ^ (8 * k) = q + c * 2 ^ (8 * k) := by
  rw [Nat.or_comm, nat_join (8 * k) _ q (Nat.mul_mod_left _ _) hq, Nat.add_comm]
theorem w_or64 (q k : Nat) (c : UInt8) (hk : k < 8) (hq : q < 2 ^ (8 * k)) :
    bits .or .u64 (q : Int) (IntKind.u64.wrap (IntKind.u64.wrap (c.toNat : Int) * 2 ^ (8 * k))) = ((q + c.toNat * 2 ^ (8 * k) : Nat) : Int) := by
  have hp := pow_le8 k hk
  have hc := c.toNat_lt
  have hm : c.toNat * 2 ^ (8 * k) ≤ 255 * 72057594037927936 := Nat.mul_le_mul (by omega) hp
  have e1 : IntKind.u64.wrap (c.toNat : Int) = (c.toNat : Int) := by rw [IntKind.wrap_u64]; omega
  have e2 : (c.toNat : Int) * 2 ^ (8 * k) = ((c.toNat * 2 ^ (8 * k) : Nat) : Int) := by push_cast; rfl
  rw [e1, e2, IntKind.wrap_u64, show (((c.toNat * 2 ^ (8 * k) : Nat) : Int) % 18446744073709551616) = ((c.toNat * 2 ^ (8 * k) : Nat) : Int) from by omega]
  rw [u64_or_nat _ _ (by omega) (by omega), or_join _ _ _ hq]
theorem w_or16 (q k : Nat) (c : UInt8) (hk : k < 2) (hq : q < 2 ^ (8 * k)) :
    bits .or .u16 (q : Int) (IntKind.u16.wrap (IntKind.u16.wrap (c.toNat : Int) * 2 ^ (8 * k))) = ((q + c.toNat * 2 ^ (8 * k) : Nat) : Int) := by
  have hp := pow_le2 k hk
  have hc := c.toNat_lt
  have hm : c.toNat * 2 ^ (8 * k) ≤ 255 * 256 := Nat.mul_le_mul (by omega) hp
  have e1 : IntKind.u16.wrap (c.toNat : Int) = (c.toNat : Int) := by rw [IntKind.wrap_u16]; omega
  have e2 : (c.toNat : Int) * 2 ^ (8 * k) = ((c.toNat * 2 ^ (8 * k) : Nat) : Int) := by push_cast; rfl
  rw [e1, e2, IntKind.wrap_u16, show (((c.toNat * 2 ^ (8 * k) : Nat) : Int) % 65536) = ((c.toNat * 2 ^ (8 * k) : Nat) : Int) from by omega]
  rw [u16_or_nat _ _ (by omega) (by omega), or_join _ _ _ hq]
end M

theorem cellsOf_snoc (bs : List UInt8) (c : UInt8) : cellsOf bs ++ [.int .u8 (c.toNat : Int)] = cellsOf (bs ++ [c]) := by simp [cellsOf]

/-- One byte more behind a row that the call owns. -/
theorem Own.snoc {wr w1 : World} {B : Nat} {v' : Value} {bs : List UInt8} {c : UInt8} (_ho : Own wr B v' bs)
    (h1 : w1.ownsRow B 5 1 v' (bs.length + 1) (cellsOf bs ++ [.int .u8 (c.toNat : Int)])) : Own w1 B v' (bs ++ [c]) := by
  unfold Own
  rw [← cellsOf_snoc, List.length_append]
  exact h1

set_option maxHeartbeats 400000 in
theorem app64_any (v : Value) (n : Nat) (_hn : n < 18446744073709551616) (W : Nat) (hW : W ≤ 8) (B : Nat) (bs : List UInt8) (hl : bs.length ≤ 1000000) (w : World)
    (hB : B ≤ w.heap.size) (ho : Own w B v bs) :
    Calls Tryd.prog 25 #[v, .int .u64 n, .int .i64 W] w fun e w' => ∃ v', e = .returned v' ∧ Own w' B v' (bs ++ M.le n W) ∧ Below B w w' := by
  obtain ⟨i0, hi, hz0, hz1, hz2⟩ := info_parts Tryd.info5
  go_enter Tryd.func25, Tryd.ntmps25
  go_wp2
  go_loopw [0, 9] (fun v i wr => ∃ k : Nat, k ≤ W ∧ i = .int .i64 k ∧ Own wr B v (bs ++ M.le n k) ∧ Below B w wr) (fun _ i _ => W - (intOf i).toNat)
  case atStart => exact ⟨0, Nat.zero_le _, rfl, by simpa [M.le] using ho, Below.refl _ _⟩
  case round =>
    obtain ⟨k, hk, rfl, hown, hb⟩ := hrel
    by_cases hlt : k < W
    · have hsz : B ≤ wr.heap.size := Nat.le_trans hB hb.size
      have e1 := M.w_dig n k
      have HS : Hid (bs ++ M.le n (k + 1) = (bs ++ M.le n k) ++ [M.dig n k]) := by rw [M.le_succ, ← List.append_assoc]; exact rfl
      have hzl : (bs ++ M.le n k).length ≤ 2000000 := by rw [List.length_append, M.le_length]; omega
      generalize bs ++ M.le n k = zs at *
      have hown' : wr.ownsRow B 5 1 u0 zs.length (cellsOf zs) := hown
      go_wp2_with (at_builtin; refine wpList_append_own _ rfl (.tmp 12) (.tmp 18) 22 rfl B 5 i0 (.int .u8 0) 1 1 Tryd.underlying22 hi hz0 hz1 hz2 rfl (by decide) u0 zs.length (cellsOf zs) rfl (hown'.alloc _) ⟨wr.heap.size, 0, none⟩ 1 1 [.int .u8 ((M.dig n k).toNat : Int)] rfl rfl (cell_one_new _ _ _) ?_ ?_ ?_ ?_ ?_)
      · intro u hu; simp at hu; subst hu; rfl
      · unfold maxLen; omega
      · omega
      · simp; omega
      · intro v' w1 hown1 hgrow1 _
        have R : Own w1 B v' (zs ++ [M.dig n k]) := by unfold Own; rw [← cellsOf_snoc, List.length_append]; exact hown1
        have hb1 : Below B w w1 := by
          refine (hb.alloc hsz _).grown hgrow1 (by simp; omega) ?_
          intro g hg
          obtain ⟨_, ⟨rfl, _⟩ | ⟨g', cap', cur', rfl, hg', _⟩⟩ := hown'
          · simp [Value.ownBlock] at hg
          · simp [Value.ownBlock] at hg; omega
        clear hown1 hgrow1 hown hown' hb
        go_wp2
        go_roundw
        case rel => exact ⟨k + 1, by omega, by go_num, by rw [HS.out]; exact R, hb1⟩
        case measure => simp [intOf]; omega
    · have hkW : Hid (k = W) := by show k = W; omega
      go_wp2
      go_ret
      exact ⟨u0, rfl, by rw [← hkW.out]; exact hown, hb⟩

set_option maxHeartbeats 400000 in
theorem read64_any (ao : Option Addr) (cap : Nat) (bs : List UInt8) (w : World) (hl : bs.length ≤ 8) (hc : Rd w ao bs) :
    Calls Tryd.prog 23 #[.slice ao bs.length cap] w fun e w' => e = .returned (.int .u64 (M.num bs : Nat)) ∧ w = w' := by
  go_enter Tryd.func23, Tryd.ntmps23
  go_wp2
  go_loop [3, 8] (fun r i => ∃ k : Nat, k ≤ bs.length ∧ i = .int .i64 k ∧ r = .int .u64 (M.num (bs.take k) : Nat)) (fun _ i => bs.length - (intOf i).toNat)
  case atStart => exact ⟨0, Nat.zero_le _, rfl, rfl⟩
  case round =>
    obtain ⟨k, hk, rfl, rfl⟩ := hrel
    by_cases hlt : k < bs.length
    · have hq : M.num (bs.take k) < 2 ^ (8 * k) := by have := M.num_lt (bs.take k); rwa [List.length_take, Nat.min_eq_left hk] at this
      have e1 := M.w_or64 (M.num (bs.take k)) k bs[k] (by omega) hq
      have HS : Hid (M.num (bs.take (k + 1)) = M.num (bs.take k) + bs[k].toNat * 2 ^ (8 * k)) := M.num_take bs k hlt
      obtain ⟨b, off, rfl, hcell⟩ := hc k hlt
      clear hc hq
      generalize M.num (bs.take k) + bs[k].toNat * 2 ^ (8 * k) = q1 at *
      generalize M.num (bs.take k) = q at *
      generalize bs[k] = c at *
      go_wp2
      go_round
      case rel => exact ⟨k + 1, by omega, by go_num, by rw [HS.out]⟩
      case measure => simp [intOf]; omega
    · have HT : Hid (bs.take k = bs) := List.take_of_length_le (by omega)
      go_wp2
      go_ret
      exact ⟨ret_int (by rw [HT.out]), rfl⟩
end Go.Proofs.YtnkdlnphmfbagaaDoor
