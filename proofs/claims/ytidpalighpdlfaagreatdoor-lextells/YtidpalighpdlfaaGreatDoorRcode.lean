/- The reference's Code and Quote. -/
import Derived.Test.YtidpalighpdlfaaGreatDoorBas
namespace Go.Proofs.YtidpalighpdlfaaGreatDoor
open Go.RowKit

theorem cat_eq (a b : List UInt8) : (⟨a.toArray⟩ : ByteArray) ++ ⟨b.toArray⟩ = ⟨(a ++ b).toArray⟩ := by
  apply ByteArray.ext
  simp
theorem hex_ext : ∀ d, d < 16 → ByteArray.extract ⟨#[48, 49, 50, 51, 52, 53, 54, 55, 56, 57, 65, 66, 67, 68, 69, 70]⟩ d (d + 1) = ⟨[X.hexc d].toArray⟩ := by
  intro d hd
  have h : d = 0 ∨ d = 1 ∨ d = 2 ∨ d = 3 ∨ d = 4 ∨ d = 5 ∨ d = 6 ∨ d = 7 ∨ d = 8 ∨ d = 9 ∨ d = 10 ∨ d = 11 ∨ d = 12 ∨ d = 13 ∨ d = 14 ∨ d = 15 := by omega
  apply ByteArray.ext
  rcases h with rfl | rfl | rfl | rfl | rfl | rfl | rfl | rfl | rfl | rfl | rfl | rfl | rfl | rfl | rfl | rfl <;> decide
theorem quoteB_app : ∀ (a b : List UInt8), X.quoteB (a ++ b) = X.quoteB a ++ X.quoteB b
  | [], b => rfl
  | c :: a, b => by
    have ih := quoteB_app a b
    by_cases h : c = 34 ∨ c = 92
    · simp only [List.cons_append, X.quoteB, if_pos h, ih]
    · simp only [List.cons_append, X.quoteB, if_neg h, ih]
theorem cut_one {s : ByteArray} {n : Nat} (h : n < (bts s).length) : s.extract n (n + 1) = ⟨[(bts s)[n]].toArray⟩ := by
  apply ByteArray.ext
  have h' : n < s.data.size := by simpa [bts] using h
  rw [ByteArray.data_extract]
  apply Array.ext
  · simp
    have : s.data.size = s.size := rfl
    omega
  · intro i h1 h2
    have : i = 0 := by simpa using h2
    subst this
    simp [bts]

set_option maxRecDepth 100000 in
set_option maxHeartbeats 4000000 in
theorem code_any (r : Int) (h0 : 0 ≤ r) (h1 : r ≤ 2147483647) (w : World) : Calls Tryz.prog 18 #[.int .i32 r] w fun e w' => e = .returned (.string ⟨(X.codeB r.toNat).toArray⟩) ∧ w' = w := by
  have hL := (X.hexd_len 7 r.toNat (by omega)).2
  go_enter Tryz.func18, Tryz.ntmps18
  go_wp2
  go_loopw [0, 4] (fun v u wr => ∃ (m : Nat) (o : List UInt8), v = .int .i32 (m : Int) ∧ u = .string ⟨o.toArray⟩ ∧ m ≤ 2147483647 ∧ Hid (X.hexd r.toNat = X.hexd m ++ o) ∧ wr = w) (fun v _ _ => (intOf v).toNat)
  case atStart => exact ⟨r.toNat, [], by rw [Int.toNat_of_nonneg h0], rfl, by omega, hide (by simp), by first | rfl | trivial⟩
  case round =>
    obtain ⟨m, o, rfl, rfl, hm, HO, rfl⟩ := hrel
    have hol : o.length ≤ 8 := by have := congrArg List.length HO.out; rw [List.length_append] at this; omega
    have hx := hex_ext (m % 16) (by omega)
    have hc := cat_eq [X.hexc (m % 16)] o
    have HC := hide (rfl : X.hexc (m % 16) = X.hexc (m % 16))
    obtain ⟨c, hcc⟩ : ∃ c, X.hexc (m % 16) = c := ⟨_, rfl⟩
    have HCC := hide hcc
    rw [hcc] at hx hc
    clear hcc HC
    by_cases h16 : m < 16
    · have he : ((m : Int) / 16 == 0) = true := by simp; omega
      have HF : Hid (X.codeB r.toNat = 39 :: 92 :: 117 :: 123 :: (c :: o ++ [125])) := hide (by
        unfold X.codeB
        rw [HO.out, X.hexd_small h16, ← HCC.out, Nat.mod_eq_of_lt h16]
        rfl)
      clear HO
      go_wp2
      go_ret
      refine ⟨?_, rfl⟩
      rw [HF.out]
      show Ending.returned (Value.string ((⟨[39, 92, 117, 123].toArray⟩ : ByteArray) ++ ⟨(c :: o).toArray⟩ ++ ⟨[125].toArray⟩)) = _
      rw [cat_eq, cat_eq]
      rfl
    · have he : ((m : Int) / 16 == 0) = false := by rw [beq_eq_false_iff_ne]; omega
      have HF : Hid (X.hexd r.toNat = X.hexd (m / 16) ++ (c :: o)) := hide (by
        rw [HO.out, X.hexd_big h16, HCC.out]
        simp)
      clear HO
      go_wp2
      exact ⟨⟨m / 16, c :: o, by simp, rfl, by omega, HF, trivial⟩, by simp [intOf]; omega⟩

set_option maxRecDepth 100000 in
set_option maxHeartbeats 4000000 in
theorem quote_any (s : ByteArray) (hs : s.size ≤ 100000) (w : World) : Calls Tryz.prog 17 #[.string s] w fun e w' => e = .returned (.string ⟨(34 :: (X.quoteB (bts s) ++ [34])).toArray⟩) ∧ w' = w := by
  go_enter Tryz.func17, Tryz.ntmps17
  go_wp2
  go_loopw [3, 4] (fun v u wr => ∃ (n : Nat) (o : List UInt8), u = .int .i64 (n : Int) ∧ v = .string ⟨o.toArray⟩ ∧ n ≤ s.size ∧ o.length ≤ 1 + 2 * n ∧ Hid (o = 34 :: X.quoteB ((bts s).take n)) ∧ wr = w) (fun _ u _ => s.size - (intOf u).toNat)
  case atStart => exact ⟨0, [34], rfl, rfl, Nat.zero_le _, by simp, hide rfl, by first | rfl | trivial⟩
  case round =>
    obtain ⟨n, o, rfl, rfl, hn, hol, HO, rfl⟩ := hrel
    by_cases hlt : n < s.size
    · have hl : n < (bts s).length := hlt
      have hx := fun j hj h => idx_at (s := s) hl j hj h
      have hcu := cut_one hl
      have HQ : Hid (34 :: X.quoteB ((bts s).take (n + 1)) = o ++ (if (bts s)[n] = 34 ∨ (bts s)[n] = 92 then [92, (bts s)[n]] else [(bts s)[n]])) := hide (by
        rw [HO.out, List.take_succ_eq_append_getElem hl, quoteB_app, List.cons_append]
        congr 2)
      generalize (bts s)[n] = c at *
      have hx2 : ∀ h, s[n]'h = c := fun h => hx (n : Int) rfl h
      clear hx
      have hc1 := cat_eq o [92]
      have hc2 := cat_eq (o ++ [92]) [c]
      have hc3 := cat_eq o [c]
      have hu : ∀ k : UInt8, ((c.toNat : Int) == (k.toNat : Int)) = decide (c = k) := fun k => by
        by_cases e : c = k
        · subst e; simp
        · rw [decide_eq_false e, beq_eq_false_iff_ne]
          exact fun h => e (UInt8.toNat_inj.1 (by omega))
      have hb1 : ((c.toNat : Int) == 34) = decide (c = 34) := hu 34
      have hb2 : ((c.toNat : Int) == 92) = decide (c = 92) := hu 92
      clear hu
      by_cases h34 : c = 34
      · rw [if_pos (.inl h34)] at HQ
        rw [decide_eq_true h34] at hb1
        clear hb2 h34 HO hc3
        have HR : Hid (o ++ [92, c] = 34 :: X.quoteB ((bts s).take (n + 1))) := hide HQ.out.symm
        go_wp2
        exact ⟨⟨n + 1, o ++ [92, c], by go_num, rfl, by omega, by simp; omega, HR, trivial⟩, by simp [intOf]; omega⟩
      · by_cases h92 : c = 92
        · rw [if_pos (.inr h92)] at HQ
          rw [decide_eq_false h34] at hb1
          rw [decide_eq_true h92] at hb2
          clear h34 h92 HO hc3
          have HR : Hid (o ++ [92, c] = 34 :: X.quoteB ((bts s).take (n + 1))) := hide HQ.out.symm
          go_wp2
          exact ⟨⟨n + 1, o ++ [92, c], by go_num, rfl, by omega, by simp; omega, HR, trivial⟩, by simp [intOf]; omega⟩
        · rw [if_neg (fun h => h.elim h34 h92)] at HQ
          rw [decide_eq_false h34] at hb1
          rw [decide_eq_false h92] at hb2
          clear h34 h92 HO hc1 hc2
          have HR : Hid (o ++ [c] = 34 :: X.quoteB ((bts s).take (n + 1))) := hide HQ.out.symm
          go_wp2
          exact ⟨⟨n + 1, o ++ [c], by go_num, rfl, by omega, by simp; omega, HR, trivial⟩, by simp [intOf]; omega⟩
    · obtain rfl : n = s.size := by omega
      have HF : Hid (34 :: (X.quoteB (bts s) ++ [34]) = o ++ [34]) := hide (by
        have := HO.out
        rw [← bts_len, List.take_length] at this
        rw [this]
        rfl)
      have hc1 := cat_eq o [34]
      clear HO
      go_wp2
      go_ret
      exact ⟨by rw [HF.out]; rfl, rfl⟩
end Go.Proofs.YtidpalighpdlfaaGreatDoor
