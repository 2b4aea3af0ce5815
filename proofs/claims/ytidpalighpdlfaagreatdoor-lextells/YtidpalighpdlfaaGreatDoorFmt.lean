/- strconv.FormatInt at base 16. -/
import Derived.Test.YtidpalighpdlfaaGreatDoorQuo
import Derived.Laws.Bits64b
namespace Go.Proofs.YtidpalighpdlfaaGreatDoor
open Go.RowKit

/-- The library's table of places of lowest bits, where it is asked. -/
def Deb (w : World) : Prop := w.cell? ⟨8, 15, none⟩ = some (.int .u8 4)
theorem Deb.later {w wx : World} (h : Deb w) (hb : Below w.heap.size w wx) : Deb wx := cell_later hb h

set_option maxHeartbeats 1000000 in
set_option maxRecDepth 100000 in
theorem tz64_any (w : World) (hd : Deb w) : Calls Tryz.prog 105 #[.int .u64 16] w fun e w' => e = .returned (.int .i64 4) ∧ w' = w := by
  have hc : w.cell? ⟨8, 15, none⟩ = some (.int .u8 4) := hd
  have hb : bits .and .u64 16 (IntKind.u64.wrap (-16)) = 16 := by kernel_rfl
  clear hd
  go_enter Tryz.func105, Tryz.ntmps105
  go_wp2
  go_ret
  exact ⟨rfl, rfl⟩
theorem tz_any (w : World) (hd : Deb w) : Calls Tryz.prog 94 #[.int .u64 16] w fun e w' => e = .returned (.int .i64 4) ∧ w' = w := by
  have h := tz64_any w hd
  clear hd
  go_enter Tryz.func94, Tryz.ntmps94
  go_wp2_with fail
  refine h.mono ?_
  rintro e w1 ⟨rfl, rfl⟩
  go_wp2
  go_ret
  exact ⟨rfl, rfl⟩
theorem pow_any (w : World) : Calls Tryz.prog 93 #[.int .i64 16] w fun e w' => e = .returned (.bool true) ∧ w' = w := by
  have hb : bits .and .i64 16 15 = 0 := by kernel_rfl
  go_enter Tryz.func93, Tryz.ntmps93
  go_wp2
  go_ret
  exact ⟨rfl, rfl⟩
/-- A small hexadecimal digit; a number in them. -/
def hexl (d : Nat) : UInt8 := if d < 10 then (48 + d).toUInt8 else (87 + d).toUInt8
def hexs (n : Nat) : List UInt8 := if _h : n < 16 then [hexl n] else hexs (n / 16) ++ [hexl (n % 16)]
termination_by n
decreasing_by omega
theorem hexs_small {n : Nat} (h : n < 16) : hexs n = [hexl n] := by rw [hexs, dif_pos h]
theorem hexs_big {n : Nat} (h : ¬ n < 16) : hexs n = hexs (n / 16) ++ [hexl (n % 16)] := by rw [hexs, dif_neg h]
theorem hexs_len : ∀ (k n : Nat), n < 16 ^ (k + 1) → (hexs n).length ≤ k + 1
  | 0, n, h => by rw [hexs_small (by simpa using h)]; simp
  | k + 1, n, h => by
    by_cases hn : n < 16
    · rw [hexs_small hn]; simp
    · rw [hexs_big hn, List.length_append, List.length_singleton]
      have := hexs_len k (n / 16) (by rw [Nat.pow_succ] at h; omega)
      omega
theorem digs_at : ∀ d, d < 16 → ∀ h, (⟨#[48, 49, 50, 51, 52, 53, 54, 55, 56, 57, 97, 98, 99, 100, 101, 102, 103, 104, 105, 106, 107, 108, 109, 110, 111, 112, 113, 114, 115, 116, 117, 118, 119, 120, 121, 122]⟩ : ByteArray)[d]'h = hexl d := by
  intro d hd
  have h : d = 0 ∨ d = 1 ∨ d = 2 ∨ d = 3 ∨ d = 4 ∨ d = 5 ∨ d = 6 ∨ d = 7 ∨ d = 8 ∨ d = 9 ∨ d = 10 ∨ d = 11 ∨ d = 12 ∨ d = 13 ∨ d = 14 ∨ d = 15 := by omega
  rcases h with rfl | rfl | rfl | rfl | rfl | rfl | rfl | rfl | rfl | rfl | rfl | rfl | rfl | rfl | rfl | rfl <;> intro h <;> rfl
theorem and15 (m : Nat) (h : m < 18446744073709551616) : bits .and .u64 (m : Int) 15 = ((m % 16 : Nat) : Int) := by
  have := bits_and_u64_nat m 15 h (by decide)
  rw [show ((15 : Nat) : Int) = 15 from rfl] at this
  rw [this]
  congr 1
  exact Nat.and_two_pow_sub_one_eq_mod m 4
theorem arr_get {wr : World} {B : Nat} {p q : List Value} {x : Value} {T : TypeId} (h : wr.heap[B]? = some (.cells (p ++ x :: q).toArray T)) : wr.cell? ⟨B, p.length, none⟩ = some x := by simp [World.cell?, h]
theorem arr_set {wr : World} {B : Nat} {p q : List Value} {x : Value} {T : TypeId} (h : wr.heap[B]? = some (.cells (p ++ x :: q).toArray T)) (v : Value) : (wr.setCell ⟨B, p.length, none⟩ v).heap[B]? = some (.cells (p ++ v :: q).toArray T) := by
  simp [World.setCell, Array.getElem?_modify, h]
theorem zero110 : Tryz.zeroCells115 = (List.replicate 65 (Value.int .u8 0)).toArray := by kernel_rfl
theorem snoc_of {α : Type} {l : List α} (h : l ≠ []) : ∃ p x, l = p ++ [x] := ⟨l.dropLast, l.getLast h, (List.dropLast_concat_getLast h).symm⟩
theorem len110 : Tryz.prog.arrayLen 115 = 65 := by kernel_rfl
theorem und110 : Tryz.prog.underlying 115 = some (.array (Tryz.prog.arrayLen 115) (Tryz.prog.elem 115)) := by kernel_rfl
theorem size110 (w : World) : (sizeOf (Tryz.prog.elem 115)).run Tryz.prog w = .ok 1 w := by kernel_rfl
theorem cut110 (B j : Nat) (hj : j < 65) (wx : World) : (Instr.sliceAt 115 (.pointer (some ⟨B, 0, none⟩)) (some (.int .i64 (j : Int))) none none).run Tryz.prog wx = .ok (.slice (some ⟨B, j, none⟩) (65 - j) (65 - j)) wx := by
  rw [run_sliceAt_array_l (P := Tryz.prog) wx 115 ⟨B, 0, none⟩ und110 .i64 (j : Int) (by omega) (by rw [len110]; omega), size110, len110]
  simp only [Result.andThen, slicedAt, Int.toNat_natCast]
  rw [if_neg (by omega), Nat.mul_one, adAdd, Nat.zero_add]
theorem rd_arr {w : World} {B : Nat} {p : List Value} {o : List UInt8} {T : TypeId} (h : w.heap[B]? = some (.cells (p ++ cB o).toArray T)) : Rd w (some ⟨B, p.length, none⟩) (cB o) := by
  intro i hi
  refine ⟨B, p.length, rfl, ?_⟩
  simp only [World.cell?, h]
  rw [List.getElem?_toArray, List.getElem?_append_right (by omega), Nat.add_sub_cancel_left, List.getElem?_eq_getElem hi]
  rfl
set_option maxRecDepth 100000 in
set_option maxHeartbeats 4000000 in
theorem fbits_any (n : Nat) (hn : n ≤ 2147483647) (w : World) (hd : Deb w) : Calls Tryz.prog 79 #[.slice none 0 0, .int .u64 (n : Int), .int .i64 16, .bool false, .bool false] w fun e w' => e = .returned (.tuple #[.slice none 0 0, .string ⟨(hexs n).toArray⟩]) ∧ Below w.heap.size w w' := by
  have hb0 := al1 w (.cells Tryz.zeroCells115 115)
  have hpw := pow_any (w.alloc (.cells Tryz.zeroCells115 115))
  have htz := tz_any (w.alloc (.cells Tryz.zeroCells115 115)) (hd.later hb0)
  have hr0 := heap_alloc_new w (.cells Tryz.zeroCells115 115)
  have hl8 := hexs_len 7 n (by omega)
  go_enter Tryz.func79, Tryz.ntmps79
  go_wp2_with fail
  refine hpw.mono ?_
  rintro e w1 ⟨rfl, rfl⟩
  go_wp2_with fail
  refine htz.mono ?_
  rintro e w1 ⟨rfl, rfl⟩
  obtain ⟨W, hW⟩ : ∃ W, w.alloc (.cells Tryz.zeroCells115 115) = W := ⟨_, rfl⟩
  rw [hW] at hb0 hr0 ⊢
  clear hW hpw htz
  go_wp2
  go_loopw [1, 13] (fun u v wr => ∃ (m k : Nat) (p : List Value) (o : List UInt8), u = .int .u64 (m : Int) ∧ v = .int .i64 (k : Int) ∧ m ≤ 2147483647 ∧ p.length = k ∧ k + o.length = 65 ∧ o.length ≤ 8 ∧ Hid (hexs n = hexs m ++ o) ∧ wr.heap[w.heap.size]? = some (.cells (p ++ cB o).toArray 115) ∧ Below w.heap.size w wr) (fun u _ _ => (intOf u).toNat)
  case atStart => exact ⟨n, 65, List.replicate 65 (Value.int .u8 0), [], rfl, rfl, hn, by simp, by simp, by simp, hide (by simp), by rw [hr0, zero110]; simp [cB], hb0⟩
  case round =>
    obtain ⟨m, k, p, o, rfl, rfl, hm, hpk, hko, ho8, HO, hr, hb⟩ := hrel
    have hpne : p ≠ [] := by intro e; rw [e] at hpk; simp at hpk; omega
    obtain ⟨p0, x, rfl⟩ := snoc_of hpne
    rw [List.length_append, List.length_singleton] at hpk
    rw [List.append_assoc, List.singleton_append] at hr
    have hc := arr_get hr
    have hf := frozen_row hr p0.length
    have hset := fun v => arr_set hr v
    obtain rfl : k = p0.length + 1 := by omega
    obtain ⟨j, hj⟩ : ∃ j, p0.length = j := ⟨_, rfl⟩
    rw [hj] at hc hf hset hko ⊢
    have hkk : ((j + 1 : Nat) : Int) - 1 = (j : Int) := by omega
    clear hpne hpk
    by_cases h16 : m < 16
    · have g1 : decide ((16 : Int) ≤ (m : Int)) = false := decide_eq_false (by omega)
      have HF : Hid (hexs n = hexl m :: o) := hide (by rw [HO.out, hexs_small h16]; rfl)
      have hx := digs_at m h16
      have hs := hset (U8 (hexl m))
      unfold U8 at hs
      clear HO hset
      generalize hexl m = c at *
      have hsl := cut110 w.heap.size j (by omega)
      have hrd : Rd (wr.setCell ⟨w.heap.size, j, none⟩ (.int .u8 (c.toNat : Int))) (some ⟨w.heap.size, j, none⟩) (cB (c :: o)) := by
        have := rd_arr (o := c :: o) (p := p0) hs
        rwa [hj] at this
      have hcv := conv_any _ _ _ (65 - j) hrd
      rw [show (c :: o).length = 65 - j by simp; omega] at hcv
      clear hs hr
      go_wp2
      go_ret2
      exact ⟨by rw [HF.out]; rfl, hb.setCell (p := ⟨w.heap.size, j, none⟩) (Nat.le_refl _) _⟩
    · have g1 : decide ((16 : Int) ≤ (m : Int)) = true := decide_eq_true (by omega)
      have hol : (hexs n).length = (hexs m).length + o.length := by rw [HO.out, List.length_append]
      have hm1 : 1 ≤ (hexs (m / 16)).length := by
        by_cases h : m / 16 < 16
        · rw [hexs_small h]; simp
        · rw [hexs_big h]; simp
      have HF : Hid (hexs n = hexs (m / 16) ++ (hexl (m % 16) :: o)) := hide (by rw [HO.out, hexs_big h16]; simp)
      have ho7 : o.length ≤ 7 := by
        rw [hexs_big h16, List.length_append, List.length_singleton] at hol
        omega
      have hba := and15 m (by omega)
      have hx := digs_at (m % 16) (by omega)
      have hs := hset (U8 (hexl (m % 16)))
      unfold U8 at hs
      clear HO hset hol hm1
      generalize hexl (m % 16) = c at *
      have hd16 : m % 16 < 16 := by omega
      generalize m % 16 = d at *
      clear hr
      go_wp2
      go_roundw
      case rel => exact ⟨m / 16, j, p0, c :: o, by simp, by simp, by omega, hj, by simp; omega, by simp; omega, HF, hs, hb.setCell (p := ⟨w.heap.size, j, none⟩) (Nat.le_refl _) _⟩
      case measure => simp [intOf]; omega
set_option maxHeartbeats 1000000 in
theorem fint_in (n : Nat) (hn : n ≤ 2147483647) (w : World) (hd : Deb w) : Calls Tryz.prog 62 #[.int .i64 (n : Int), .int .i64 16] w fun e w' => e = .returned (.string ⟨(hexs n).toArray⟩) ∧ Below w.heap.size w w' := by
  have h := fbits_any n hn w hd
  generalize hexs n = o at *
  clear hd
  go_enter Tryz.func62, Tryz.ntmps62
  go_wp2_with fail
  refine h.mono ?_
  rintro e w1 ⟨rfl, hb⟩
  go_wp2
  go_ret
  exact ⟨rfl, hb⟩
theorem fint_any (n : Nat) (hn : n ≤ 2147483647) (w : World) (hd : Deb w) : Calls Tryz.prog 46 #[.int .i64 (n : Int), .int .i64 16] w fun e w' => e = .returned (.string ⟨(hexs n).toArray⟩) ∧ Below w.heap.size w w' := by
  have h := fint_in n hn w hd
  generalize hexs n = o at *
  clear hd
  go_enter Tryz.func46, Tryz.ntmps46
  go_wp2_with fail
  refine h.mono ?_
  rintro e w1 ⟨rfl, hb⟩
  go_wp2
  go_ret
  exact ⟨rfl, hb⟩
end Go.Proofs.YtidpalighpdlfaaGreatDoor
