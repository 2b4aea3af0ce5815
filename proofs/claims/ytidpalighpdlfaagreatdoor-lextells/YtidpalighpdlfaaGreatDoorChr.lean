/- hexPoint of lex; plain facts for char. -/
import Derived.Test.YtidpalighpdlfaaGreatDoorWrd
import Derived.Test.YtidpalighpdlfaaGreatDoorPint
namespace Go.Proofs.YtidpalighpdlfaaGreatDoor
open Go.RowKit

/-- A code point's number, and the brace behind it. -/
def hexP (h : List UInt8) : Option (Nat × Nat) :=
  if 1 ≤ (h.takeWhile X.isH).length ∧ (h.takeWhile X.isH).length ≤ 6 ∧ X.hexN (h.takeWhile X.isH) ≤ 1114111 ∧ (h.drop (h.takeWhile X.isH).length).head? = some 125
  then some (X.hexN (h.takeWhile X.isH), (h.takeWhile X.isH).length + 1) else none
/-- What hexPoint answers. -/
def AnsH (o : Option (Nat × Nat)) (e : Ending) : Prop := ∃ p k : Nat, e = .returned (.tuple #[.int .i32 (p : Int), .int .i64 (k : Int)]) ∧ (∀ q, o = some q → p = q.1 ∧ k = q.2) ∧ (o = none → k = 0)
theorem ansH_none {o : Option (Nat × Nat)} (h : o = none) : AnsH o (.returned (.tuple #[.int .i32 0, .int .i64 0])) := ⟨0, 0, rfl, (by rw [h]; intro p h; cases h), fun _ => rfl⟩
theorem ansH_some {o : Option (Nat × Nat)} {p k : Nat} (h : o = some (p, k)) : AnsH o (.returned (.tuple #[.int .i32 (p : Int), .int .i64 (k : Int)])) := ⟨p, k, rfl, (by rw [h]; intro p h; cases h; exact ⟨rfl, rfl⟩), (by rw [h]; intro h; cases h)⟩
theorem tw_all (p : UInt8 → Bool) : ∀ (l : List UInt8), ∀ c ∈ l.takeWhile p, p c = true
  | [], c, h => by simp at h
  | b :: l, c, h => by
    by_cases hb : p b = true
    · rw [List.takeWhile_cons_of_pos hb] at h
      rcases List.mem_cons.1 h with rfl | h
      · exact hb
      · exact tw_all p l c h
    · rw [List.takeWhile_cons_of_neg hb] at h; cases h
set_option maxRecDepth 100000 in
set_option maxHeartbeats 2000000 in
theorem hexp_lex (s : ByteArray) (hs : s.size ≤ 100000) (w : World) : Calls Tryz.prog 54 #[.string s] w fun e w' => AnsH (hexP (bts s)) e ∧ Below w.heap.size w w' := by
  have hrun := run_hex s hs w
  have hle := X.takeWhile_le X.isH (bts s)
  rw [bts_len] at hle
  obtain ⟨n, hn⟩ : ∃ n, ((bts s).takeWhile X.isH).length = n := ⟨_, rfl⟩
  have ht : (bts s).takeWhile X.isH = bts (s.extract 0 n) := by
    rw [bts_take, ← hn]
    exact List.prefix_iff_eq_take.1 (List.takeWhile_prefix X.isH)
  have hall : ∀ c ∈ bts (s.extract 0 n), X.isH c = true := by rw [← ht]; exact tw_all _ _
  have hpr := pre_any (s.extract n s.size) ⟨#[125]⟩ w
  rw [bts_extract s n, show bts ⟨#[125]⟩ = [125] from rfl, pre_one] at hpr
  have HU : Hid (hexP (bts s) = if 1 ≤ n ∧ n ≤ 6 ∧ X.hexN (bts (s.extract 0 n)) ≤ 1114111 ∧ ((bts s).drop n).head? = some 125 then some (X.hexN (bts (s.extract 0 n)), n + 1) else none) := hide (by
    unfold hexP
    rw [hn, ht])
  rw [hn] at hrun hle
  clear hn ht
  generalize hexP (bts s) = o at *
  generalize ((bts s).drop n).head? = hd at *
  by_cases hz : n = 0
  · subst hz
    have HN : Hid (o = none) := hide (by rw [HU.out, if_neg (fun h => absurd h.1 (by omega))])
    clear HU hpr hall
    go_enter Tryz.func54, Tryz.ntmps54
    go_wp2_with fail
    refine hrun.mono ?_
    rintro e w1 ⟨rfl, rfl⟩
    go_wp2
    go_ret2
    exact ⟨ansH_none HN.out, Below.refl _ _⟩
  · have hz' : 0 < n := by omega
    clear hz
    have e0 : ((n : Int) == 0) = false := by rw [beq_eq_false_iff_ne]; omega
    by_cases h6 : n ≤ 6
    · have e6 : decide ((6 : Int) < n) = false := decide_eq_false (by omega)
      by_cases hh : hd = some 125
      · rw [decide_eq_true hh] at hpr
        have hsz : (s.extract 0 n).size = n := by rw [ext_size _ _ _ hle]; omega
        have hpi := pint_any (s.extract 0 n) (by omega) (by omega) hall w
        have hlt : X.hexN (bts (s.extract 0 n)) < 16777216 := by
          have h2 := hexN_lt n (bts (s.extract 0 n)) (by rw [bts_len]; exact hsz) hall
          have h3 : 16 ^ n ≤ 16 ^ 6 := Nat.pow_le_pow_right (by decide) (by omega)
          omega
        have HU2 : Hid (o = if X.hexN (bts (s.extract 0 n)) ≤ 1114111 then some (X.hexN (bts (s.extract 0 n)), n + 1) else none) := hide (by
          rw [HU.out]
          by_cases hq : X.hexN (bts (s.extract 0 n)) ≤ 1114111
          · rw [if_pos hq, if_pos ⟨hz', h6, hq, hh⟩]
          · rw [if_neg hq, if_neg (fun h => hq h.2.2.1)])
        clear HU hh hall hsz
        generalize X.hexN (bts (s.extract 0 n)) = m at *
        by_cases hm : m ≤ 1114111
        · have em : decide ((1114111 : Int) < (m : Int)) = false := decide_eq_false (by omega)
          have HN : Hid (o = some (m, n + 1)) := hide (by rw [HU2.out, if_pos hm])
          clear HU2
          go_enter Tryz.func54, Tryz.ntmps54
          go_wp2_with fail
          refine hrun.mono ?_
          rintro e w1 ⟨rfl, rfl⟩
          go_wp2_with fail
          refine hpr.mono ?_
          rintro e w1 ⟨rfl, rfl⟩
          go_wp2_with fail
          refine hpi.mono ?_
          rintro e w2 ⟨rfl, hb⟩
          go_wp2
          go_ret2
          exact ⟨ansH_some HN.out, hb⟩
        · have em : decide ((1114111 : Int) < (m : Int)) = true := decide_eq_true (by omega)
          have HN : Hid (o = none) := hide (by rw [HU2.out, if_neg hm])
          clear HU2
          go_enter Tryz.func54, Tryz.ntmps54
          go_wp2_with fail
          refine hrun.mono ?_
          rintro e w1 ⟨rfl, rfl⟩
          go_wp2_with fail
          refine hpr.mono ?_
          rintro e w1 ⟨rfl, rfl⟩
          go_wp2_with fail
          refine hpi.mono ?_
          rintro e w2 ⟨rfl, hb⟩
          go_wp2
          go_ret2
          exact ⟨ansH_none HN.out, hb⟩
      · rw [decide_eq_false hh] at hpr
        have HN : Hid (o = none) := hide (by rw [HU.out, if_neg (fun h => hh h.2.2.2)])
        clear HU hh hall
        go_enter Tryz.func54, Tryz.ntmps54
        go_wp2_with fail
        refine hrun.mono ?_
        rintro e w1 ⟨rfl, rfl⟩
        go_wp2_with fail
        refine hpr.mono ?_
        rintro e w1 ⟨rfl, rfl⟩
        go_wp2
        go_ret2
        exact ⟨ansH_none HN.out, Below.refl _ _⟩
    · have e6 : decide ((6 : Int) < n) = true := decide_eq_true (by omega)
      have HN : Hid (o = none) := hide (by rw [HU.out, if_neg (fun h => h6 h.2.1)])
      clear HU hpr hall
      go_enter Tryz.func54, Tryz.ntmps54
      go_wp2_with fail
      refine hrun.mono ?_
      rintro e w1 ⟨rfl, rfl⟩
      go_wp2
      go_ret2
      exact ⟨ansH_none HN.out, Below.refl _ _⟩

/-- The second place of what bytes are read as, or their end. -/
theorem at_one {l : List UInt8} (h : l ≠ []) : M.at (M.sts l) (l.length : Int) 1 = ((M.dec l).2 : Int) := by
  have hs := M.dec_size h
  have e : M.sts l = (0 : Int) :: (M.rs (0 + (M.dec l).2) (l.drop (M.dec l).2)).map fun s => (s.1 : Int) := by
    unfold M.sts
    rw [M.rs_step 0 h]
    rfl
  rw [e]
  by_cases hd : l.drop (M.dec l).2 = []
  · rw [hd, M.rs_nil]
    have hl : l.length ≤ (M.dec l).2 := by simpa using hd
    unfold M.at
    simp
    omega
  · rw [M.rs_step _ hd]
    unfold M.at
    simp
    rw [if_neg (by omega), if_neg (by omega)]
theorem pts_head {l : List UInt8} (h : l ≠ []) : ∃ r, M.pts l = ((M.dec l).1 : Int) :: r := ⟨_, M.pts_step h⟩
/-- What a byte below 128 says of its code point. -/
theorem dec_low {c : UInt8} {v : List UInt8} {k : Nat} (hk : k < 128) : (M.dec (c :: v)).1 = k ↔ c.toNat = k := by
  rcases Nat.lt_or_ge c.toNat 128 with h5 | h5
  · have : (M.dec (c :: v)).1 = c.toNat := by unfold M.dec Lib.decodeN; simp [h5]
    rw [this]
  · have : 128 ≤ (M.dec (c :: v)).1 := by
      unfold M.dec Lib.decodeN
      simp only [List.getD_cons_zero]
      rw [if_neg (by omega)]
      repeat' split
      all_goals simp only
      all_goals omega
    omega
end Go.Proofs.YtidpalighpdlfaaGreatDoor
