/- The walk of CrcRows: it answers true whatever the numbers and the texts; nothing that was there has turned. -/
import Derived.Test.YtnkdlnphmfbagaaDoorShort
import Derived.Test.YtnkdlnphmfbagaaDoorApp
namespace Go.Proofs.YtnkdlnphmfbagaaDoor
open Go.RowKit
namespace M
/-- One number and one text behind it. -/
def item (ns : List Nat) (ss : List ByteArray) (k : Nat) : List UInt8 := le (ns.getD k 0) (k % 9) ++ (le (ss.getD k ByteArray.empty).size 2 ++ (ss.getD k ByteArray.empty).data.toList)
def rows (ns : List Nat) (ss : List ByteArray) : Nat → List UInt8
  | 0 => []
  | k + 1 => rows ns ss k ++ item ns ss k
/-- What is left of them from number k on, d of them. -/
def tail (ns : List Nat) (ss : List ByteArray) : Nat → Nat → List UInt8
  | _, 0 => []
  | k, d + 1 => item ns ss k ++ tail ns ss (k + 1) d
theorem rows_tail (ns : List Nat) (ss : List ByteArray) : ∀ d k, rows ns ss (k + d) = rows ns ss k ++ tail ns ss k d
  | 0, k => by simp [tail]
  | d + 1, k => by rw [show k + (d + 1) = (k + 1) + d from by omega, rows_tail ns ss d (k + 1), rows, tail, List.append_assoc]
theorem rows_all (ns : List Nat) (ss : List ByteArray) (d : Nat) : rows ns ss d = tail ns ss 0 d := by
  have := rows_tail ns ss d 0
  rwa [Nat.zero_add, rows, List.nil_append] at this
theorem item_length (ns : List Nat) (ss : List ByteArray) (k : Nat) (h : (ss.getD k ByteArray.empty).size ≤ 100) : (item ns ss k).length ≤ 110 := by
  unfold item
  rw [List.length_append, List.length_append, le_length, le_length, Array.length_toList]
  have : (ss.getD k ByteArray.empty).data.size = (ss.getD k ByteArray.empty).size := rfl
  omega
theorem rows_length (ns : List Nat) (ss : List ByteArray) : ∀ k, (∀ j, j < k → (ss.getD j ByteArray.empty).size ≤ 100) → (rows ns ss k).length ≤ 110 * k
  | 0, _ => by simp [rows]
  | k + 1, h => by
    have h1 := rows_length ns ss k (fun j hj => h j (by omega))
    have h2 := item_length ns ss k (h k (by omega))
    rw [rows, List.length_append]
    omega
theorem tail_length (ns : List Nat) (ss : List ByteArray) : ∀ d k, (∀ j, j < k + d → (ss.getD j ByteArray.empty).size ≤ 100) → (tail ns ss k d).length ≤ 110 * d
  | 0, _, _ => by simp [tail]
  | d + 1, k, h => by
    have h1 := tail_length ns ss d (k + 1) (fun j hj => h j (by omega))
    have h2 := item_length ns ss k (h k (by omega))
    rw [tail, List.length_append]
    omega
theorem item_take (n : Nat) (c : Nat) (s : ByteArray) (tl : List UInt8) : ((le n c ++ (le s.size 2 ++ s.data.toList)) ++ tl).take c = le n c := by
  rw [List.append_assoc, List.take_append_of_le_length (by rw [le_length]; omega), List.take_of_length_le (by rw [le_length]; omega)]
theorem item_drop (n : Nat) (c : Nat) (s : ByteArray) (tl : List UInt8) : ((le n c ++ (le s.size 2 ++ s.data.toList)) ++ tl).drop c = le s.size 2 ++ (s.data.toList ++ tl) := by
  rw [List.append_assoc, List.drop_append_of_le_length (by rw [le_length]; omega), List.drop_of_length_le (by rw [le_length]; omega), List.nil_append, List.append_assoc]
theorem bytes_take (s : ByteArray) (tl : List UInt8) : (s.data.toList ++ tl).take s.size = s.data.toList := by
  have h : s.data.toList.length = s.size := by rw [Array.length_toList]; rfl
  rw [List.take_append_of_le_length (by omega), List.take_of_length_le (by omega)]
theorem bytes_drop (s : ByteArray) (tl : List UInt8) : (s.data.toList ++ tl).drop s.size = tl := by
  have h : s.data.toList.length = s.size := by rw [Array.length_toList]; rfl
  rw [List.drop_append_of_le_length (by omega), List.drop_of_length_le (by omega), List.nil_append]
theorem w_mask (n c : Nat) (hn : n < 18446744073709551616) (hc : c < 8) : bits .and .u64 (n : Int) (IntKind.u64.wrap (IntKind.u64.wrap (2 ^ (8 * c)) - 1)) = ((n % 2 ^ (8 * c) : Nat) : Int) := by
  have hp := pow_le8 c hc
  have h0 : 0 < 2 ^ (8 * c) := Nat.two_pow_pos _
  have e0 : ((2 : Int) ^ (8 * c)) = ((2 ^ (8 * c) : Nat) : Int) := by rw [Int.natCast_pow]; rfl
  have e1 : IntKind.u64.wrap (2 ^ (8 * c)) = ((2 ^ (8 * c) : Nat) : Int) := by rw [e0, IntKind.wrap_u64]; omega
  have e2 : IntKind.u64.wrap (((2 ^ (8 * c) : Nat) : Int) - 1) = ((2 ^ (8 * c) - 1 : Nat) : Int) := by rw [IntKind.wrap_u64]; omega
  rw [e1, e2, u64_and_nat _ _ hn (by omega), Nat.and_two_pow_sub_one_eq_mod]
theorem held_mod (k : Nat) : held ((k % 9 : Nat) : Int) = k % 9 := by unfold held; omega
end M

/-- A slice of numbers, a slice of texts. -/
def Rdn (w : World) (ao : Option Addr) (ns : List Nat) : Prop :=
  ∀ i, i < ns.length → ∃ b off, ao = some ⟨b, off, none⟩ ∧ w.cell? ⟨b, off + i, none⟩ = some (.int .u64 ((ns.getD i 0 : Nat) : Int))
def Rds (w : World) (ao : Option Addr) (ss : List ByteArray) : Prop :=
  ∀ i, i < ss.length → ∃ b off, ao = some ⟨b, off, none⟩ ∧ w.cell? ⟨b, off + i, none⟩ = some (.string (ss.getD i ByteArray.empty))
theorem Rdn.later {w wx : World} {ao : Option Addr} {ns : List Nat} (h : Rdn w ao ns) (hb : Below w.heap.size w wx) : Rdn wx ao ns := fun i hi =>
  let ⟨b, off, e, hc⟩ := h i hi
  ⟨b, off, e, cell_later hb hc⟩
theorem Rds.later {w wx : World} {ao : Option Addr} {ss : List ByteArray} (h : Rds w ao ss) (hb : Below w.heap.size w wx) : Rds wx ao ss := fun i hi =>
  let ⟨b, off, e, hc⟩ := h i hi
  ⟨b, off, e, cell_later hb hc⟩

set_option maxHeartbeats 4000000 in
set_option maxRecDepth 100000 in
theorem rows_any (aoN : Option Addr) (capN : Nat) (ns : List Nat) (aoS : Option Addr) (capS : Nat) (ss : List ByteArray) (w : World) (ht : Tab w) (hnl : ns.length ≤ 9223372036854775807) (hsl : ss.length ≤ 9223372036854775807)
    (hN : Rdn w aoN ns) (hNb : ∀ i, ns.getD i 0 < 18446744073709551616) (hS : Rds w aoS ss) (hSb : ∀ i, (ss.getD i ByteArray.empty).size ≤ 9223372036854775807) :
    Calls Tryd.prog 6 #[.slice aoN ns.length capN, .slice aoS ss.length capS] w fun e w' => e = .returned (.bool true) ∧ Below w.heap.size w w' := by
  by_cases h20 : 20 < ns.length
  · go_enter Tryd.func6, Tryd.ntmps6
    go_wp2_with fail
    refine (known_any w ht).mono ?_
    rintro e w1 ⟨rfl, hb⟩
    go_wp2
    go_ret
    exact ⟨rfl, hb⟩
  by_cases hss : ss.length < ns.length
  · go_enter Tryd.func6, Tryd.ntmps6
    go_wp2_with fail
    refine (known_any w ht).mono ?_
    rintro e w1 ⟨rfl, hb⟩
    go_wp2
    go_ret
    exact ⟨rfl, hb⟩
  go_enter Tryd.func6, Tryd.ntmps6
  go_wp2_with fail
  refine (known_any w ht).mono ?_
  rintro e w1 ⟨rfl, hB1⟩
  have hN1 := hN.later hB1
  have hS1 := hS.later hB1
  clear ht hN hS
  go_wp2
  go_loopw [5, 6] (fun v i wr => ∃ (k : Nat) (ao : Option Addr) (cap : Nat) (zs : List UInt8), k ≤ ns.length ∧ i = .int .i64 k ∧ v = .slice ao zs.length cap ∧ zs = M.rows ns ss k ∧ zs.length ≤ cap ∧ Rd wr ao zs ∧ Below w1.heap.size w1 wr ∧ (∀ j, j < k → (ss.getD j ByteArray.empty).size ≤ 100)) (fun _ i _ => ns.length - (intOf i).toNat)
  case atStart => exact ⟨0, none, 0, [], Nat.zero_le _, rfl, rfl, rfl, Nat.zero_le _, rd_nil _, Below.refl _ _, fun j hj => by omega⟩
  case round =>
    obtain ⟨k, ao, cap, zs, hk, rfl, rfl, hz, hle, hrd, hbr, h100⟩ := hrel
    have hzl : zs.length ≤ 110 * k := by rw [hz]; exact M.rows_length ns ss k h100
    by_cases hlt : k < ns.length
    · obtain ⟨bN, oN, rfl, cN1⟩ := hN1 k hlt
      obtain ⟨bS, oS, rfl, cS1⟩ := hS1 k (by omega)
      have cN := cell_later hbr cN1
      have cS := cell_later hbr cS1
      have hn := hNb k
      have hsb := hSb k
      have HR : Hid (M.rows ns ss (k + 1) = M.rows ns ss k ++ M.item ns ss k) := rfl
      have HI : Hid (M.item ns ss k = M.le (ns.getD k 0) (k % 9) ++ (M.le (ss.getD k ByteArray.empty).size 2 ++ (ss.getD k ByteArray.empty).data.toList)) := rfl
      have HZ := hz
      generalize ns.getD k 0 = n at *
      generalize hs0 : ss.getD k ByteArray.empty = s at *
      have HS0 : Hid (ss.getD k ByteArray.empty = s) := hs0
      clear hs0 cN1 cS1
      have hBr : Below w.heap.size w wr := hB1.trans (hbr.mono hB1.size)
      by_cases hs1 : 100 < s.size
      · clear HR HI HZ hz
        go_wp2
        go_ret
        exact ⟨rfl, hBr⟩
      · obtain ⟨c, hc⟩ : ∃ c, c = k % 9 := ⟨_, rfl⟩
        have hkm : ((k : Int) % 9) = (c : Int) := by omega
        have hkt : (k : Int).tmod 9 = (c : Int) := by rw [Int.tmod_eq_emod_of_nonneg (by omega)]; exact hkm
        have HC : Hid (c = k % 9) := hc
        have hc9 : c < 9 := by omega
        have HH : Hid (M.held (c : Int) = c) := by show _ = _; unfold M.held; omega
        have HZ' : Hid (zs = M.rows ns ss k) := hz
        clear hc hz HZ
        go_wp2_with fail
        go_region_with (first
          | (go_at_call 15; refine (put_any ao cap zs n hn (c : Int) _ (by omega) ?_).mono ?_; exact hrd; rintro e w2 ⟨ao2, cap2, z2, hz2, rfl, hle2, _, hr2, hb2⟩; have hb2' : Below wr.heap.size wr w2 := Below.trans (Below.refl _ _).drew hb2; have cS2 := cell_later hb2' cS; have hz2l : z2.length ≤ 100000 := (by rw [hz2, List.length_append, M.le_length, HH.out]; omega); have HZ2 := hide hz2; clear hz2 hb2)
          | (go_at_call 17; refine (text_any ao2 cap2 z2 s _ hz2l (by omega) ?_).mono ?_; exact hr2; rintro e w3 ⟨ao3, cap3, z3, hz3, rfl, hle3, _, hr3, hb3⟩; have HZ3 := hide hz3; clear hz3))
        all_goals
          have hb3' : Below w1.heap.size w1 w3 := hbr.trans ((hb2'.mono hbr.size).trans (hb3.mono (Nat.le_trans hbr.size hb2'.size)))
          clear hb3 hb2' cS2 cS cN
          go_wp2
          go_roundw
          case rel => exact ⟨k + 1, ao3, cap3, z3, by omega, by go_num, rfl, by rw [HZ3.out, HZ2.out, HZ'.out, HH.out, HR.out, HI.out, HC.out]; simp only [List.append_assoc], hle3, hr3, hb3', fun j hj => by
            by_cases hjk : j = k
            · subst hjk; rw [HS0.out]; omega
            · exact h100 j (by omega)⟩
          case measure => simp [intOf]; omega
    · obtain rfl : k = ns.length := by omega
      have hBr : Below w.heap.size w wr := hB1.trans (hbr.mono hB1.size)
      rw [M.rows_all] at hz
      have HZ0 : Hid (zs = M.tail ns ss 0 ns.length) := hz
      clear hz hzl
      go_wp2
      go_loopw [5, 7] (fun v i wr => ∃ (k : Nat) (ao : Option Addr) (cap : Nat) (zs : List UInt8), k ≤ ns.length ∧ i = .int .i64 k ∧ v = .slice ao zs.length cap ∧ zs = M.tail ns ss k (ns.length - k) ∧ zs.length ≤ cap ∧ Rd wr ao zs ∧ Below w1.heap.size w1 wr) (fun _ i _ => ns.length - (intOf i).toNat)
      case atStart => exact ⟨0, ao, cap, zs, Nat.zero_le _, rfl, rfl, HZ0.out, hle, hrd, hbr⟩
      case round =>
        clear hrd hbr hle HZ0 hBr
        obtain ⟨k, ao, cap, zs, hk, rfl, rfl, hz, hle, hrd, hbr⟩ := hrel
        have hBr : Below w.heap.size w wr := hB1.trans (hbr.mono hB1.size)
        by_cases hlt : k < ns.length
        · have hs100 := h100 k hlt
          have hzl : zs.length ≤ 110 * (ns.length - k) := by rw [hz]; exact M.tail_length ns ss _ k (fun j hj => h100 j (by omega))
          obtain ⟨bN, oN, rfl, cN1⟩ := hN1 k hlt
          obtain ⟨bS, oS, rfl, cS1⟩ := hS1 k (by omega)
          have cN := cell_later hbr cN1
          have hn := hNb k
          rw [show ns.length - k = (ns.length - (k + 1)) + 1 from by omega, M.tail] at hz
          unfold M.item at hz
          have HT : Hid (M.tail ns ss (k + 1) (ns.length - (k + 1)) = M.tail ns ss (k + 1) (ns.length - (k + 1))) := rfl
          generalize ns.getD k 0 = n at *
          generalize ss.getD k ByteArray.empty = s at *
          obtain ⟨tl, htl⟩ : ∃ tl, tl = M.tail ns ss (k + 1) (ns.length - (k + 1)) := ⟨_, rfl⟩
          rw [← htl] at hz
          obtain ⟨c, hc⟩ : ∃ c, c = k % 9 := ⟨_, rfl⟩
          rw [← hc] at hz
          have hkm : ((k : Int) % 9) = (c : Int) := by omega
          have hc9 : c < 9 := by omega
          have hh : M.held (c : Int) = c := by unfold M.held; omega
          have hlen : zs.length = c + (2 + (s.size + tl.length)) := by
            rw [hz]; simp only [List.length_append, M.le_length, Array.length_toList]; show _ = c + (2 + (s.data.size + tl.length)); omega
          have htk : M.num (zs.take c) = n % 2 ^ (8 * c) := by rw [hz, M.item_take, M.num_le]
          have hdr : zs.drop c = M.le s.size 2 ++ (s.data.toList ++ tl) := by rw [hz, M.item_drop]
          have HTK := hide htk
          have HDR := hide hdr
          have HTL := hide htl
          have HH := hide hh
          have hl1 : c + (2 + (s.size + tl.length)) ≤ zs.length := by omega
          clear htk hdr htl hh hz hc cN1 HT hlen
          by_cases hc8 : c < 8
          · have e1 := M.w_mask n c hn hc8
            generalize n % 2 ^ (8 * c) = q at *
            go_wp2_with fail
            refine (get_ok ao cap zs (c : Int) wr (by omega) hle hrd (by rw [HH.out]; omega)).mono ?_
            rintro e w2 ⟨ao2, cap2, z2, hz2, rfl, hle2, _, hr2, hb2⟩
            rw [HH.out, HDR.out] at hz2
            rw [HH.out, HTK.out]
            have hz2l : z2.length = 2 + (s.size + tl.length) := by rw [hz2]; simp only [List.length_append, M.le_length, Array.length_toList]; rfl
            have hnum : M.num (z2.take 2) = s.size := by rw [hz2, M.take2_le, M.num_le2 _ (by omega)]
            have hdrp : z2.drop 2 = s.data.toList ++ tl := by rw [hz2, M.drop2_le]
            have HN := hide hnum
            have HD := hide hdrp
            have hz3 : 2 + (s.size + tl.length) ≤ z2.length := by omega
            have hz4 : z2.length ≤ 100000 := by omega
            have hb2' : Below w1.heap.size w1 w2 := hbr.trans (hb2.mono hbr.size)
            clear hz2 hz2l hnum hdrp hb2
            go_wp2_with fail
            refine (gt_ok ao2 cap2 z2 100 w2 (by omega) hz4 hle2 hr2 (by rw [HN.out]; omega) (by rw [HN.out]; omega)).mono ?_
            rintro e w3 ⟨ao3, cap3, us, ts, hus, hts, rfl, hle3, hr3, hb3⟩
            rw [HN.out, HD.out, M.bytes_take] at hus
            rw [HN.out, HD.out, M.bytes_drop] at hts
            subst hts
            have hsu : (⟨us.toArray⟩ : ByteArray) = s := by rw [hus]
            rw [hsu]
            have hb3' : Below w1.heap.size w1 w3 := hb2'.trans (hb3.mono hb2'.size)
            have cS := cell_later hb3' cS1
            clear hsu hus hb3 hr2 hrd hle2
            go_wp2
            go_roundw
            case rel => exact ⟨k + 1, ao3, cap3, ts, by omega, by go_num, rfl, HTL.out, hle3, hr3, hb3'⟩
            case measure => clear e1; simp [intOf]; omega
          · have HQ : n % 2 ^ (8 * c) = n := by
              have hc88 : c = 8 := by omega
              rw [hc88]
              exact Nat.mod_eq_of_lt (by simpa using hn)
            rw [HQ] at HTK
            clear HQ
            go_wp2_with fail
            refine (get_ok ao cap zs (c : Int) wr (by omega) hle hrd (by rw [HH.out]; omega)).mono ?_
            rintro e w2 ⟨ao2, cap2, z2, hz2, rfl, hle2, _, hr2, hb2⟩
            rw [HH.out, HDR.out] at hz2
            rw [HH.out, HTK.out]
            have hz2l : z2.length = 2 + (s.size + tl.length) := by rw [hz2]; simp only [List.length_append, M.le_length, Array.length_toList]; rfl
            have hnum : M.num (z2.take 2) = s.size := by rw [hz2, M.take2_le, M.num_le2 _ (by omega)]
            have hdrp : z2.drop 2 = s.data.toList ++ tl := by rw [hz2, M.drop2_le]
            have HN := hide hnum
            have HD := hide hdrp
            have hz3 : 2 + (s.size + tl.length) ≤ z2.length := by omega
            have hz4 : z2.length ≤ 100000 := by omega
            have hb2' : Below w1.heap.size w1 w2 := hbr.trans (hb2.mono hbr.size)
            clear hz2 hz2l hnum hdrp hb2
            go_wp2_with fail
            refine (gt_ok ao2 cap2 z2 100 w2 (by omega) hz4 hle2 hr2 (by rw [HN.out]; omega) (by rw [HN.out]; omega)).mono ?_
            rintro e w3 ⟨ao3, cap3, us, ts, hus, hts, rfl, hle3, hr3, hb3⟩
            rw [HN.out, HD.out, M.bytes_take] at hus
            rw [HN.out, HD.out, M.bytes_drop] at hts
            subst hts
            have hsu : (⟨us.toArray⟩ : ByteArray) = s := by rw [hus]
            rw [hsu]
            have hb3' : Below w1.heap.size w1 w3 := hb2'.trans (hb3.mono hb2'.size)
            have cS := cell_later hb3' cS1
            clear hsu hus hb3 hr2 hrd hle2
            go_wp2
            go_roundw
            case rel => exact ⟨k + 1, ao3, cap3, ts, by omega, by go_num, rfl, HTL.out, hle3, hr3, hb3'⟩
            case measure => simp [intOf]; omega
        · obtain rfl : k = ns.length := by omega
          rw [Nat.sub_self, M.tail] at hz
          subst hz
          go_wp2
          go_ret
          exact ⟨rfl, hBr⟩
end Go.Proofs.YtnkdlnphmfbagaaDoor
