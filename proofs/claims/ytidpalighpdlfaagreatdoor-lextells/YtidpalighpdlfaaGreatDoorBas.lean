/- Small things for the walks; lex's questions of one byte. -/
import Derived.WalkKit
import Derived.WalkSpells
import Derived.WalkLawsBesides
import Derived.BigQuiet
import Derived.Test.YtidpalighpdlfaaGreatDoorProg
import Derived.Test.YtidpalighpdlfaaGreatDoorLexg
namespace Go.Proofs.YtidpalighpdlfaaGreatDoor
open Go.RowKit

theorem hide {p : Prop} (h : p) : Hid p := h
/-- One step behind another. -/
theorem nx {w w1 w2 : World} (h : Below w.heap.size w w1) (h1 : Below w1.heap.size w1 w2) : Below w.heap.size w w2 := h.trans (h1.mono h.size)
theorem al1 (w : World) (o : Obj) : Below w.heap.size w (w.alloc o) := (Below.refl _ w).alloc (Nat.le_refl _) _
abbrev U8 (c : UInt8) : Value := .int .u8 (c.toNat : Int)
theorem u8_eq (c k : UInt8) : ((c.toNat : Int) == (k.toNat : Int)) = decide (c = k) := by
  by_cases e : c = k
  · subst e; simp
  · rw [decide_eq_false e, beq_eq_false_iff_ne]
    exact fun h => e (UInt8.toNat_inj.1 (by omega))

set_option maxHeartbeats 1000000 in
theorem letter_any (c : UInt8) (w : World) : Calls Tryz.prog 35 #[U8 c] w fun e w' => e = .returned (.bool (X.isL c)) ∧ w' = w := by
  have hc := c.toNat_lt
  generalize hr : X.isL c = r
  unfold U8
  go_enter Tryz.func35, Tryz.ntmps35
  go_wp2
  all_goals
    go_ret
    refine ⟨?_, rfl⟩
    subst hr
    simp [X.isL, *]
    first | omega | (rw [Bool.eq_iff_iff]; simp; omega)
theorem digit_any (c : UInt8) (w : World) : Calls Tryz.prog 33 #[U8 c] w fun e w' => e = .returned (.bool (X.isD c)) ∧ w' = w := by
  have hc := c.toNat_lt
  generalize hr : X.isD c = r
  unfold U8
  go_enter Tryz.func33, Tryz.ntmps33
  go_wp2
  all_goals
    go_ret
    refine ⟨?_, rfl⟩
    subst hr
    simp [X.isD, *]
    first | omega | (rw [Bool.eq_iff_iff]; simp; omega)
set_option maxHeartbeats 1000000 in
theorem alnum_any (c : UInt8) (w : World) : Calls Tryz.prog 49 #[U8 c] w fun e w' => e = .returned (.bool (X.isLD c)) ∧ w' = w := by
  have hl := letter_any c w
  have hd := digit_any c w
  unfold X.isLD
  generalize X.isL c = a at *
  generalize X.isD c = b at *
  unfold U8 at *
  cases a with
  | true =>
    clear hd
    go_enter Tryz.func49, Tryz.ntmps49
    go_wp2_with fail
    refine hl.mono ?_
    rintro e w1 ⟨rfl, rfl⟩
    go_wp2
    go_ret
    exact ⟨by simp, rfl⟩
  | false =>
    go_enter Tryz.func49, Tryz.ntmps49
    go_wp2_with fail
    refine hl.mono ?_
    rintro e w1 ⟨rfl, rfl⟩
    go_wp2_with fail
    refine hd.mono ?_
    rintro e w1 ⟨rfl, rfl⟩
    go_wp2
    go_ret
    exact ⟨by simp, rfl⟩
set_option maxHeartbeats 1000000 in
theorem ident_any (c : UInt8) (w : World) : Calls Tryz.prog 51 #[U8 c] w fun e w' => e = .returned (.bool (X.isI c)) ∧ w' = w := by
  have hl := alnum_any c w
  have e45 : ((c.toNat : Int) == 45) = decide (c = 45) := u8_eq c 45
  have e95 : ((c.toNat : Int) == 95) = decide (c = 95) := u8_eq c 95
  have hI : X.isI c = (X.isLD c || decide (c = 45) || decide (c = 95)) := by
    unfold X.isI X.isLD
    have b1 : (c == 45) = decide (c = 45) := by rw [Bool.eq_iff_iff]; simp
    have b2 : (c == 95) = decide (c = 95) := by rw [Bool.eq_iff_iff]; simp
    rw [b1, b2]
  rw [hI]
  clear hI
  generalize X.isLD c = a at *
  generalize decide (c = 45) = b at *
  generalize decide (c = 95) = d at *
  unfold U8 at *
  cases a with
  | true =>
    go_enter Tryz.func51, Tryz.ntmps51
    go_wp2_with fail
    refine hl.mono ?_
    rintro e w1 ⟨rfl, rfl⟩
    go_wp2
    go_ret
    exact ⟨by simp, rfl⟩
  | false =>
    cases b with
    | true =>
      go_enter Tryz.func51, Tryz.ntmps51
      go_wp2_with fail
      refine hl.mono ?_
      rintro e w1 ⟨rfl, rfl⟩
      go_wp2
      go_ret
      exact ⟨by simp, rfl⟩
    | false =>
      cases d with
      | true =>
        go_enter Tryz.func51, Tryz.ntmps51
        go_wp2_with fail
        refine hl.mono ?_
        rintro e w1 ⟨rfl, rfl⟩
        go_wp2
        go_ret
        exact ⟨by simp, rfl⟩
      | false =>
        go_enter Tryz.func51, Tryz.ntmps51
        go_wp2_with fail
        refine hl.mono ?_
        rintro e w1 ⟨rfl, rfl⟩
        go_wp2
        go_ret
        exact ⟨by simp, rfl⟩
set_option maxHeartbeats 1000000 in
theorem hex_any (c : UInt8) (w : World) : Calls Tryz.prog 67 #[U8 c] w fun e w' => e = .returned (.bool (X.isH c)) ∧ w' = w := by
  have hl := digit_any c w
  have hc := c.toNat_lt
  have hH : X.isH c = (X.isD c || (decide (97 ≤ c.toNat ∧ c.toNat ≤ 102) || decide (65 ≤ c.toNat ∧ c.toNat ≤ 70))) := by
    unfold X.isH X.hexv
    cases X.isD c with
    | true => simp
    | false =>
      simp only [Bool.false_or, Bool.false_eq_true, if_false]
      by_cases h1 : 97 ≤ c.toNat ∧ c.toNat ≤ 102
      · rw [if_pos h1, decide_eq_true h1]; rfl
      · rw [if_neg h1, decide_eq_false h1]
        by_cases h2 : 65 ≤ c.toNat ∧ c.toNat ≤ 70
        · rw [if_pos h2, decide_eq_true h2]; rfl
        · rw [if_neg h2, decide_eq_false h2]; rfl
  rw [hH]
  clear hH
  generalize X.isD c = a at *
  unfold U8 at *
  cases a with
  | true =>
    go_enter Tryz.func67, Tryz.ntmps67
    go_wp2_with fail
    refine hl.mono ?_
    rintro e w1 ⟨rfl, rfl⟩
    go_wp2
    go_ret
    exact ⟨by simp, rfl⟩
  | false =>
    generalize hr : (false || (decide (97 ≤ c.toNat ∧ c.toNat ≤ 102) || decide (65 ≤ c.toNat ∧ c.toNat ≤ 70))) = r
    have HR := hide hr
    clear hr
    go_enter Tryz.func67, Tryz.ntmps67
    go_wp2_with fail
    refine hl.mono ?_
    rintro e w1 ⟨rfl, rfl⟩
    go_wp2
    all_goals
      go_ret
      refine ⟨?_, rfl⟩
      obtain rfl := HR.out
      simp [*]
      try first | omega | (rw [Bool.eq_iff_iff]; simp; omega)
/-- The bytes of a text. -/
def bts (s : ByteArray) : List UInt8 := s.data.toList
theorem bts_len (s : ByteArray) : (bts s).length = s.size := rfl
theorem idx_at {s : ByteArray} {i : Nat} (hi : i < (bts s).length) (j : Int) (hj : j = (i : Int)) (h : j.toNat < s.size) : s[j.toNat]'h = (bts s)[i] := by
  subst hj
  simp [bts, ByteArray.getElem_eq_getElem_data]
theorem tw_len {p : UInt8 → Bool} {l : List UInt8} {n : Nat} (h : ∀ c ∈ l.take n, p c = true) (hn : n = l.length ∨ ∃ h : n < l.length, p l[n] = false) : (l.takeWhile p).length = n := by
  have e : l = l.take n ++ l.drop n := (List.take_append_drop n l).symm
  have hle : n ≤ l.length := by
    rcases hn with h1 | ⟨h1, _⟩ <;> omega
  rw [e, X.tw_id h (l.drop n) ?_, List.length_take]
  · omega
  · rcases hn with h1 | ⟨h1, h2⟩
    · exact .inl (by rw [h1, List.drop_length])
    · exact .inr ⟨l[n], l.drop (n + 1), List.drop_eq_getElem_cons h1, h2⟩
theorem take_snoc {l : List UInt8} {k n : Nat} (h : k + n < l.length) : (l.drop k).take (n + 1) = (l.drop k).take n ++ [l[k + n]] := by
  have h2 : n < (l.drop k).length := by rw [List.length_drop]; omega
  rw [List.take_succ_eq_append_getElem h2]
  simp
theorem take_snoc0 {l : List UInt8} {n : Nat} (h : n < l.length) : l.take (n + 1) = l.take n ++ [l[n]] := by
  rw [List.take_succ_eq_append_getElem h]
end Go.Proofs.YtidpalighpdlfaaGreatDoor
