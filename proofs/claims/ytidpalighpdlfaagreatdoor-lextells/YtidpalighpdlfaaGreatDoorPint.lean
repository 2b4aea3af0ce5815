/- strconv.ParseInt of one to six hexadecimal digits, at base 16 and 32 bits. -/
import Derived.Test.YtidpalighpdlfaaGreatDoorMrk
import Derived.Test.YtidpalighpdlfaaGreatDoorRd
import Derived.Lib.ConvBytes
namespace Go.Proofs.YtidpalighpdlfaaGreatDoor
open Go.RowKit

/-- []byte(t). -/
theorem bytes_of (t : ByteArray) (w : World) : ∃ cap W', (convert 9 40 (.string t)).run Tryz.prog w = .ok (.slice (some ⟨w.heap.size, 0, none⟩) t.size cap) W' ∧ Rd W' (some ⟨w.heap.size, 0, none⟩) (cB (bts t)) ∧ Below w.heap.size w W' := by
  refine ⟨_, _, Lib.run_convert_string_bytes w 9 40 5 t Tryz.underlying9 Tryz.underlying40 Tryz.underlying5, ?_, ?_⟩
  · intro i hi
    refine ⟨_, _, rfl, ?_⟩
    have hi' : i < t.size := by rw [cB_length] at hi; exact hi
    rw [Nat.zero_add, Lib.bytesWorld_cell w 5 t i hi']
    have hb : i < t.data.toList.length := hi'
    simp [cB, bts, List.getD_eq_getElem?_getD, List.getElem?_eq_getElem hb]
  · exact ⟨rfl, rfl, rfl, by rw [Lib.bytesWorld_size]; omega, fun k hk => Lib.bytesWorld_at_old w 5 t k hk⟩

theorem low_any (x : Int) (d : Nat) (h1 : 10 ≤ d) (h2 : d ≤ 15) (hx : x = (d : Int) + 55 ∨ x = (d : Int) + 87) (w : World) : Calls Tryz.prog 106 #[.int .u8 x] w fun e w' => e = .returned (.int .u8 ((d : Int) + 87)) ∧ w' = w := by
  have hd : d = 10 ∨ d = 11 ∨ d = 12 ∨ d = 13 ∨ d = 14 ∨ d = 15 := by omega
  rcases hd with rfl | rfl | rfl | rfl | rfl | rfl <;> rcases hx with rfl | rfl
  all_goals
    go_enter Tryz.func106, Tryz.ntmps106
    go_wp2
    go_ret
    exact ⟨rfl, rfl⟩
theorem hexv_cases {c : UInt8} (h : X.isH c = true) : ∃ d : Nat, X.hexv c = some d ∧ d < 16 ∧ ((d < 10 ∧ (c.toNat : Int) = (d : Int) + 48) ∨ (10 ≤ d ∧ ((c.toNat : Int) = (d : Int) + 55 ∨ (c.toNat : Int) = (d : Int) + 87))) := by
  unfold X.isH X.hexv at *
  cases hd : X.isD c with
  | true =>
    have : 48 ≤ c.toNat ∧ c.toNat ≤ 57 := by simpa [X.isD] using hd
    refine ⟨c.toNat - 48, by rw [if_pos rfl], by omega, .inl ⟨by omega, by omega⟩⟩
  | false =>
    rw [hd] at h
    simp only [Bool.false_eq_true, if_false] at h ⊢
    by_cases h1 : 97 ≤ c.toNat ∧ c.toNat ≤ 102
    · rw [if_pos h1]
      exact ⟨_, rfl, by omega, .inr ⟨by omega, .inr (by omega)⟩⟩
    · rw [if_neg h1] at h ⊢
      by_cases h2 : 65 ≤ c.toNat ∧ c.toNat ≤ 70
      · rw [if_pos h2]
        exact ⟨_, rfl, by omega, .inr ⟨by omega, .inl (by omega)⟩⟩
      · rw [if_neg h2] at h; cases h
theorem hexN_lt : ∀ (k : Nat) (l : List UInt8), l.length = k → (∀ c ∈ l, X.isH c = true) → X.hexN l < 16 ^ k := by
  intro k
  induction k with
  | zero => intro l h _; obtain rfl := List.eq_nil_of_length_eq_zero h; decide
  | succ k ih =>
    intro l h hh
    have hne : l ≠ [] := by intro e; rw [e] at h; cases h
    obtain ⟨m, x, rfl⟩ : ∃ m x, l = m ++ [x] := ⟨l.dropLast, l.getLast hne, (List.dropLast_concat_getLast hne).symm⟩
    rw [X.hexN_snoc]
    obtain ⟨d, hd, hd2, _⟩ := hexv_cases (hh x (by simp))
    have := ih m (by simpa using h) (fun c hc => hh c (by simp [hc]))
    rw [hd, Nat.pow_succ]
    simp only [Option.getD_some]
    omega
set_option maxRecDepth 100000 in
set_option maxHeartbeats 4000000 in
theorem puint_any (t : ByteArray) (h1 : 1 ≤ t.size) (h6 : t.size ≤ 6) (hh : ∀ c ∈ bts t, X.isH c = true) (w : World) : Calls Tryz.prog 96 #[.string t, .int .i64 16, .int .i64 32] w fun e w' => e = .returned (.tuple #[.int .u64 (X.hexN (bts t) : Int), .nilIface]) ∧ Below w.heap.size w w' := by
  have HH := hide hh
  clear hh
  have he : (t.toList == []) = false := by
    rw [beq_eq_false_iff_ne, Lib.toList_data]
    intro e
    have := congrArg List.length e
    rw [← Lib.size_eq] at this
    have h0 : t.size = 0 := this
    omega
  obtain ⟨cap, W, hrun, hrd, hbl⟩ := bytes_of t w
  go_enter Tryz.func96, Tryz.ntmps96
  go_wp2
  go_loopw [12, 13, 101] (fun q v u wr => q = .bool false ∧ ∃ i : Nat, u = .int .i64 (i : Int) ∧ i ≤ t.size ∧ v = .int .u64 (X.hexN ((bts t).take i) : Int) ∧ wr = W) (fun _ _ u _ => t.size - (intOf u).toNat)
  case atStart => exact ⟨rfl, 0, rfl, by omega, rfl, by first | rfl | trivial⟩
  case round =>
    obtain ⟨rfl, i, rfl, hi, rfl, rfl⟩ := hrel
    by_cases hlt : i < t.size
    · have hl : i < (bts t).length := hlt
      obtain ⟨b, off, hao, hcell⟩ := hrd.byte i hl
      cases hao
      have HT := hide (take_snoc0 hl)
      have hH := HH.out ((bts t)[i]) (List.getElem_mem hl)
      have hlt6 : X.hexN ((bts t).take i) < 16777216 := by
        have h2 := hexN_lt i ((bts t).take i) (by rw [List.length_take, bts_len]; omega) (fun c hc => HH.out c (List.mem_of_mem_take hc))
        have h3 : 16 ^ i ≤ 16 ^ 6 := Nat.pow_le_pow_right (by decide) (by omega)
        omega
      generalize (bts t)[i] = c at *
      obtain ⟨d, hv, hd, hcc⟩ := hexv_cases hH
      have HN : Hid (X.hexN ((bts t).take (i + 1)) = X.hexN ((bts t).take i) * 16 + d) := hide (by rw [HT.out, X.hexN_snoc, hv]; rfl)
      clear HT hH hv
      generalize X.hexN ((bts t).take i) = n at *
      generalize (c.toNat : Int) = x at *
      rw [Nat.zero_add] at hcell
      rcases hcc with ⟨h10, rfl⟩ | ⟨h10, hx⟩
      · have g1 : decide ((1152921504606846976 : Int) ≤ (n : Int)) = false := decide_eq_false (by omega)
        have g2 : decide ((n : Int) * 16 + d < (n : Int) * 16) = false := decide_eq_false (by omega)
        have g3 : decide ((4294967295 : Int) < (n : Int) * 16 + d) = false := decide_eq_false (by omega)
        have g4 : (((d : Int) + 48) == 95) = false := by rw [beq_eq_false_iff_ne]; omega
        have g5 : decide ((48 : Int) ≤ (d : Int) + 48) = true := decide_eq_true (by omega)
        have g6 : decide ((d : Int) + 48 ≤ 57) = true := decide_eq_true (by omega)
        have g7 : decide ((16 : Int) ≤ (d : Int)) = false := decide_eq_false (by omega)
        go_wp2
        go_roundw
        case rel => exact ⟨rfl, i + 1, by go_num, by omega, by rw [HN.out]; go_num, by first | rfl | trivial⟩
        case measure => simp [intOf]; omega
      · have g1 : decide ((1152921504606846976 : Int) ≤ (n : Int)) = false := decide_eq_false (by omega)
        have g2 : decide ((n : Int) * 16 + d < (n : Int) * 16) = false := decide_eq_false (by omega)
        have g3 : decide ((4294967295 : Int) < (n : Int) * 16 + d) = false := decide_eq_false (by omega)
        have g4 : (x == 95) = false := by rw [beq_eq_false_iff_ne]; omega
        have g5 : decide ((48 : Int) ≤ x) = true := decide_eq_true (by omega)
        have g6 : decide (x ≤ 57) = false := decide_eq_false (by omega)
        have g7 : decide ((16 : Int) ≤ (d : Int)) = false := decide_eq_false (by omega)
        have g8 : decide ((97 : Int) ≤ (d : Int) + 87) = true := decide_eq_true (by omega)
        have g9 : decide ((d : Int) + 87 ≤ 122) = true := decide_eq_true (by omega)
        have hlow := low_any x d h10 (by omega) hx wr
        have HX := hide hx
        clear hx
        go_wp2_with fail
        refine hlow.mono ?_
        rintro e w1 ⟨rfl, rfl⟩
        go_wp2_with fail
        refine hlow.mono ?_
        rintro e w1 ⟨rfl, rfl⟩
        go_wp2_with fail
        refine hlow.mono ?_
        rintro e w1 ⟨rfl, rfl⟩
        go_wp2
        go_roundw
        case rel => exact ⟨rfl, i + 1, by go_num, by omega, by rw [HN.out]; go_num, by first | rfl | trivial⟩
        case measure => simp [intOf]; omega
    · obtain rfl : i = t.size := by omega
      have HE : Hid ((bts t).take t.size = bts t) := hide (List.take_of_length_le (Nat.le_refl _))
      rw [HE.out]
      go_wp2
      go_ret2
      exact ⟨rfl, hbl⟩
set_option maxRecDepth 100000 in
set_option maxHeartbeats 4000000 in
theorem pint_in (t : ByteArray) (h1 : 1 ≤ t.size) (h6 : t.size ≤ 6) (hh : ∀ c ∈ bts t, X.isH c = true) (w : World) : Calls Tryz.prog 84 #[.string t, .int .i64 16, .int .i64 32] w fun e w' => e = .returned (.tuple #[.int .i64 (X.hexN (bts t) : Int), .nilIface]) ∧ Below w.heap.size w w' := by
  have he : (t.toList == []) = false := by
    rw [beq_eq_false_iff_ne, Lib.toList_data]
    intro e
    have := congrArg List.length e
    rw [← Lib.size_eq] at this
    have h0 : t.size = 0 := this
    omega
  have hp := puint_any t h1 h6 hh w
  have hlt6 : X.hexN (bts t) < 16777216 := by
    have h2 := hexN_lt t.size (bts t) rfl hh
    have h3 : 16 ^ t.size ≤ 16 ^ 6 := Nat.pow_le_pow_right (by decide) (by omega)
    omega
  have hl : 0 < (bts t).length := by rw [bts_len]; omega
  have hH := hh ((bts t)[0]) (List.getElem_mem hl)
  have hx := fun h => (idx_at (s := t) hl ((0 : Nat) : Int) rfl h)
  clear hh
  generalize (bts t)[0] = c at *
  have hx2 : ∀ h, t[0]'h = c := fun h => hx h
  clear hx
  have e43 : ((c.toNat : Int) == 43) = false := by
    obtain ⟨d, _, _, h⟩ := hexv_cases hH
    rw [beq_eq_false_iff_ne]; omega
  have e45 : ((c.toNat : Int) == 45) = false := by
    obtain ⟨d, _, _, h⟩ := hexv_cases hH
    rw [beq_eq_false_iff_ne]; omega
  clear hH
  generalize X.hexN (bts t) = n at *
  have g1 : decide ((2147483648 : Int) ≤ (n : Int)) = false := decide_eq_false (by omega)
  go_enter Tryz.func84, Tryz.ntmps84
  go_wp2_with fail
  refine hp.mono ?_
  rintro e w1 ⟨rfl, hb⟩
  go_wp2
  go_ret2
  exact ⟨rfl, hb⟩
set_option maxHeartbeats 1000000 in
theorem pint_any (t : ByteArray) (h1 : 1 ≤ t.size) (h6 : t.size ≤ 6) (hh : ∀ c ∈ bts t, X.isH c = true) (w : World) : Calls Tryz.prog 68 #[.string t, .int .i64 16, .int .i64 32] w fun e w' => e = .returned (.tuple #[.int .i64 (X.hexN (bts t) : Int), .nilIface]) ∧ Below w.heap.size w w' := by
  have hp := pint_in t h1 h6 hh w
  clear hh
  generalize X.hexN (bts t) = n at *
  go_enter Tryz.func68, Tryz.ntmps68
  go_wp2_with fail
  refine hp.mono ?_
  rintro e w1 ⟨rfl, hb⟩
  go_wp2
  go_ret2
  exact ⟨rfl, hb⟩
end Go.Proofs.YtidpalighpdlfaaGreatDoor
