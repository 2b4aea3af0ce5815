/- What LexChars says: the walk. -/
import Derived.Test.YtidpalighpdlfaaDoorKnwn
import Derived.Laws.Cover4
namespace Go.Proofs.YtidpalighpdlfaaDoor
open Go.RowKit

/-- Two signs in a row of the call's own. -/
theorem two_rd {w wx : World} {B : Nat} {v : Value} {x y : X.Tk × Nat} (h : OwnK w B v [x, y]) (hb : Below w.heap.size w wx) : ∃ b off cap, v = .slice (some ⟨b, off, none⟩) 2 cap ∧
    wx.cell? ⟨b, off, none⟩ = some (.int .i64 (x.1.kind : Int)) ∧ wx.cell? ⟨b, off + 2, none⟩ = some (.string ⟨x.1.text.toArray⟩) ∧ wx.cell? ⟨b, off + 3, none⟩ = some (.int .i32 x.1.r) ∧ wx.cell? ⟨b, off + 5, none⟩ = some (.int .i64 (y.2 : Int)) := by
  obtain ⟨ao, cap, rfl, _, _, hrd⟩ := h.rd
  have hr := hrd.later hb
  obtain ⟨b, off, rfl, c0, _, c2, c3⟩ := hr.at 0 (by simp)
  obtain ⟨b', off', e, _, d1, _, _⟩ := hr.at 1 (by simp)
  cases e
  refine ⟨b, off, cap, rfl, ?_, ?_, ?_, ?_⟩
  · simpa using c0
  · simpa using c2
  · simpa using c3
  · simpa using d1
theorem enc_list {r : Int} (h0 : 0 ≤ r) (h1 : r ≤ 1114111) (h2 : ¬ (55296 ≤ r ∧ r ≤ 57343)) : Utf8.encode r = ⟨(M.enc r).toArray⟩ := by
  obtain ⟨n, rfl⟩ := Int.eq_ofNat_of_zero_le h0
  have hv : Utf8.valid (n : Int) = true := by
    unfold Utf8.valid
    simp
    omega
  unfold Utf8.encode M.enc Lib.encodeRune Lib.encodeRuneZ
  rw [hv]
  simp only [if_true, Int.toNat_natCast]
  by_cases c1 : n < 128
  · rw [if_pos c1, if_pos (show 0 ≤ (n : Int) ∧ (n : Int) ≤ 127 by omega)]
    rfl
  · rw [if_neg c1, if_neg (show ¬ (0 ≤ (n : Int) ∧ (n : Int) ≤ 127) by omega)]
    by_cases c2 : n < 2048
    · rw [if_pos c2, if_pos (show 128 ≤ (n : Int) ∧ (n : Int) ≤ 2047 by omega)]
      simp only [List.map_cons, List.map_nil]
      rw [show (192 + (n : Int) / 64).toNat = 192 + n / 64 by omega, show (128 + (n : Int) % 64).toNat = 128 + n % 64 by omega]
    · rw [if_neg c2, if_neg (show ¬ (128 ≤ (n : Int) ∧ (n : Int) ≤ 2047) by omega)]
      by_cases c3 : n < 65536
      · rw [if_pos c3, if_pos (show (2048 ≤ (n : Int) ∧ (n : Int) < 55296) ∨ (57343 < (n : Int) ∧ (n : Int) ≤ 65535) by omega)]
        simp only [List.map_cons, List.map_nil]
        rw [show (224 + (n : Int) / 4096).toNat = 224 + n / 4096 by omega, show (128 + (n : Int) / 64 % 64).toNat = 128 + n / 64 % 64 by omega, show (128 + (n : Int) % 64).toNat = 128 + n % 64 by omega]
      · rw [if_neg c3, if_neg (show ¬ ((2048 ≤ (n : Int) ∧ (n : Int) < 55296) ∨ (57343 < (n : Int) ∧ (n : Int) ≤ 65535)) by omega), if_pos (show 65536 ≤ (n : Int) ∧ (n : Int) ≤ 1114111 by omega)]
        simp only [List.map_cons, List.map_nil]
        rw [show (240 + (n : Int) / 262144).toNat = 240 + n / 262144 by omega, show (128 + (n : Int) / 4096 % 64).toNat = 128 + n / 4096 % 64 by omega, show (128 + (n : Int) / 64 % 64).toNat = 128 + n / 64 % 64 by omega, show (128 + (n : Int) % 64).toNat = 128 + n % 64 by omega]
theorem one_rune (w : World) (r : Int) (h0 : 0 ≤ r) (h1 : r ≤ 1114111) (h2 : ¬ (55296 ≤ r ∧ r ≤ 57343)) : (convert 39 9 (.slice (some ⟨w.heap.size, 0, none⟩) 1 1)).run Tryd.prog (w.alloc (.cells #[.int .i32 r] 21)) = .ok (.string ⟨(M.enc r).toArray⟩) (w.alloc (.cells #[.int .i32 r] 21)) := by
  rw [run_convert_runes (P := Tryd.prog) (w.alloc (.cells #[.int .i32 r] 21)) 39 9 21 ⟨w.heap.size, 0, none⟩ 1 1 [r] (by simp) Tryd.underlying39 Tryd.underlying21 Tryd.underlying9 (fun j hj => by
    obtain rfl : j = 0 := by simpa using hj
    exact new_cells w [.int .i32 r] 21 #[.int .i32 r] rfl 0 _ rfl)]
  rw [← enc_list h0 h1 h2]
  have : runesBytes ([r].take 1) = Utf8.encode r := by
    show ByteArray.empty ++ Utf8.encode r = _
    simp
  rw [this]

/-- Scan of these bytes. -/
theorem scan_of {b : List UInt8} {r : Except Nat (List (X.Tk × Nat))} (h : X.scan 0 b = r) (hl : b.length ≤ 100000) (W : World) (hW : Tabs W) : Calls Tryd.prog 9 #[.string ⟨b.toArray⟩] W fun e W' => AnsX r W.heap.size e W' ∧ Below W.heap.size W W' := by
  have := scan_lex ⟨b.toArray⟩ (by show b.toArray.size ≤ _; simpa using hl) W hW
  rw [show bts ⟨b.toArray⟩ = b from rfl, h] at this
  exact this
set_option maxRecDepth 100000 in
set_option maxHeartbeats 1000000 in
theorem chars_any (r : Int) (hr0 : -2147483648 ≤ r) (hr1 : r ≤ 2147483647) (w : World) (ht : Tabs w) (hd : Deb w) : Calls Tryd.prog 7 #[.int .i32 r] w fun e w' => e = .returned (.bool true) ∧ Below w.heap.size w w' := by
  have hk := known_any w ht hd
  by_cases h1 : r < 32
  · go_enter Tryd.func7, Tryd.ntmps7
    go_wp2_with fail
    refine hk.mono ?_
    rintro e w1 ⟨rfl, hb1⟩
    have g1 : decide (r < 32) = true := decide_eq_true h1
    go_wp2
    go_ret
    exact ⟨rfl, hb1⟩
  have g1 : decide (r < 32) = false := decide_eq_false h1
  by_cases h2 : 1114111 < r
  · have g2 : decide (1114111 < r) = true := decide_eq_true h2
    go_enter Tryd.func7, Tryd.ntmps7
    go_wp2_with fail
    refine hk.mono ?_
    rintro e w1 ⟨rfl, hb1⟩
    go_wp2
    go_ret
    exact ⟨rfl, hb1⟩
  have g2 : decide (1114111 < r) = false := decide_eq_false h2
  by_cases h3 : 55296 ≤ r ∧ r ≤ 57343
  · have g3 : decide (55296 ≤ r) = true := decide_eq_true h3.1
    have g4 : decide (r ≤ 57343) = true := decide_eq_true h3.2
    go_enter Tryd.func7, Tryd.ntmps7
    go_wp2_with fail
    refine hk.mono ?_
    rintro e w1 ⟨rfl, hb1⟩
    go_wp2
    go_ret
    exact ⟨rfl, hb1⟩
  have hcase : decide (55296 ≤ r) = false ∨ (decide (55296 ≤ r) = true ∧ decide (r ≤ 57343) = false) := by
    by_cases h : 55296 ≤ r
    · exact .inr ⟨decide_eq_true h, decide_eq_false (by omega)⟩
    · exact .inl (decide_eq_false h)
  by_cases h4 : r = 92
  · subst h4
    go_enter Tryd.func7, Tryd.ntmps7
    go_wp2_with fail
    refine hk.mono ?_
    rintro e w1 ⟨rfl, hb1⟩
    go_wp2
    go_ret
    exact ⟨rfl, hb1⟩
  have g5 : (r == 92) = false := by rw [beq_eq_false_iff_ne]; exact h4
  have hsc := X.scan_char (r := r) (by omega) (by omega) h3 h4
  have hcd := X.scan_code (n := r.toNat) (by omega)
  rw [if_pos (by omega), Int.toNat_of_nonneg (by omega)] at hcd
  have hel := M.enc_length r
  have hcl := X.hexd_len 5 r.toNat (by omega)
  have hcat := cat_eq [39] (M.enc r)
  have hs1 := scan_of (b := [39] ++ M.enc r) hsc (by simp; omega)
  have hs2 := scan_of hcd (by simp [X.codeB]; omega)
  have hcv := fun W => one_rune W r (by omega) (by omega) h3
  have hco := code_any r (by omega) (by omega)
  have hlen : (⟨([39] ++ M.enc r).toArray⟩ : ByteArray).size = (39 :: M.enc r).length := by show ([39] ++ M.enc r).toArray.size = _; simp
  have HS1 := hide hs1
  have HS2 := hide hs2
  clear hs1 hs2 hsc hcd h1 h2 h3 h4
  rcases hcase with g3 | ⟨g3, g4⟩
  all_goals
    go_enter Tryd.func7, Tryd.ntmps7
    go_wp2_with fail
    refine hk.mono ?_
    rintro e w1 ⟨rfl, hb1⟩
    have hcv1 := hcv w1
    have hbA := hb1.alloc hb1.size (.cells #[.int .i32 r] 21)
    go_wp2_with fail
    refine (HS1.out _ (ht.later hbA)).mono ?_
    rintro e w2 ⟨ha, hb2⟩
    obtain ⟨v1, rfl, hv1⟩ := ha.ok
    have hbB := nx hbA hb2
    clear ha
    go_wp2_with fail
    refine (hco w2).mono ?_
    rintro e w3 ⟨rfl, rfl⟩
    go_wp2_with fail
    refine (HS2.out _ (ht.later hbB)).mono ?_
    rintro e w4 ⟨ha, hb4⟩
    obtain ⟨v2, rfl, hv2⟩ := ha.ok
    have hbC := nx hbB hb4
    obtain ⟨b1, o1, cap1, rfl, x0, x2, x3, x5⟩ := two_rd hv1 hb4
    obtain ⟨b2, o2, cap2, rfl, y0, y2, y3, y5⟩ := two_rd hv2 (Below.refl _ _)
    have hix := elemSize23
    simp only [show ((4 : Nat) : Int) = 4 from rfl] at x0
    rw [← hlen] at x5
    clear ha hv1 hv2 hcv hco hk hcv1
    go_wp2
    go_ret
    exact ⟨rfl, hbC⟩
end Go.Proofs.YtidpalighpdlfaaDoor
