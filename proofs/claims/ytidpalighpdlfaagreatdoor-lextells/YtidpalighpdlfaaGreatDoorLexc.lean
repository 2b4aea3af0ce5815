/- Signs: how they are printed; what is printed is read as the same signs. -/
import Derived.Test.YtidpalighpdlfaaGreatDoorLexb
namespace Go.Proofs.YtidpalighpdlfaaGreatDoor
namespace X
open M

def hexc (d : Nat) : UInt8 := if d < 10 then (48 + d).toUInt8 else (55 + d).toUInt8
/-- Capital hexadecimal digits, without noughts ahead. -/
def hexd (n : Nat) : List UInt8 := if _h : n < 16 then [hexc n] else hexd (n / 16) ++ [hexc (n % 16)]
termination_by n
decreasing_by omega
theorem hexc_v : ∀ d, d < 16 → hexv (hexc d) = some d := by decide
theorem hexN_snoc (l : List UInt8) (c : UInt8) : hexN (l ++ [c]) = hexN l * 16 + (hexv c).getD 0 := by
  unfold hexN
  rw [List.foldl_append]
  rfl
theorem hexd_small {n : Nat} (h : n < 16) : hexd n = [hexc n] := by rw [hexd, dif_pos h]
theorem hexd_big {n : Nat} (h : ¬ n < 16) : hexd n = hexd (n / 16) ++ [hexc (n % 16)] := by rw [hexd, dif_neg h]
theorem hexd_N : ∀ n, hexN (hexd n) = n := by
  intro n
  induction n using Nat.strongRecOn with
  | ind n ih =>
    by_cases h : n < 16
    · rw [hexd_small h]
      show 0 * 16 + (hexv (hexc n)).getD 0 = n
      rw [hexc_v n h]
      simp
    · rw [hexd_big h, hexN_snoc, ih (n / 16) (by omega), hexc_v _ (by omega)]
      simp
      omega
theorem hexd_H : ∀ n, ∀ c ∈ hexd n, isH c = true := by
  intro n
  induction n using Nat.strongRecOn with
  | ind n ih =>
    by_cases h : n < 16
    · rw [hexd_small h]
      intro c hc
      obtain rfl : c = hexc n := by simpa using hc
      unfold isH
      rw [hexc_v n h]
      rfl
    · rw [hexd_big h]
      intro c hc
      rcases List.mem_append.1 hc with h1 | h1
      · exact ih (n / 16) (by omega) c h1
      · obtain rfl : c = hexc (n % 16) := by simpa using h1
        unfold isH
        rw [hexc_v _ (by omega)]
        rfl
theorem hexd_len : ∀ (k n : Nat), n < 16 ^ (k + 1) → 1 ≤ (hexd n).length ∧ (hexd n).length ≤ k + 1
  | 0, n, h => by rw [hexd_small (by simpa using h)]; simp
  | k + 1, n, h => by
    by_cases hn : n < 16
    · rw [hexd_small hn]; simp
    · rw [hexd_big hn]
      have := hexd_len k (n / 16) (by rw [Nat.div_lt_iff_lt_mul (by decide)]; rw [Nat.pow_succ] at h; exact h)
      simp
      omega
theorem tw_id {p : UInt8 → Bool} {d : List UInt8} (h : ∀ c ∈ d, p c = true) (v : List UInt8) (hv : v = [] ∨ ∃ x w, v = x :: w ∧ p x = false) : (d ++ v).takeWhile p = d := by
  rw [tw_stop hv]
  induction d with
  | nil => rfl
  | cons c d ih => rw [List.takeWhile_cons_of_pos (h c (by simp)), ih fun x hx => h x (by simp [hx])]

/-- A word as it is printed, without its quotes. -/
def quoteB : List UInt8 → List UInt8
  | [] => []
  | c :: u => if c = 34 ∨ c = 92 then 92 :: c :: quoteB u else c :: quoteB u
theorem wordB_end (v : List UInt8) : wordB (34 :: v) = some ([], 1) := by
  unfold wordB
  rw [if_pos rfl]
theorem wordB_esc {x : UInt8} (v : List UInt8) (h : x = 34 ∨ x = 92) : wordB (92 :: x :: v) = (wordB v).map fun p => (x :: p.1, p.2 + 2) := by
  conv => lhs; unfold wordB
  rw [if_neg (by decide), if_neg (by decide), if_pos rfl]
  simp only
  rw [if_pos h]
theorem wordB_other {c : UInt8} (u : List UInt8) (h1 : c ≠ 34) (h2 : c ≠ 10) (h3 : c ≠ 92) : wordB (c :: u) = (wordB u).map fun p => (c :: p.1, p.2 + 1) := by
  conv => lhs; unfold wordB
  rw [if_neg h1, if_neg h2, if_neg h3]
theorem wordB_feed (u : List UInt8) : wordB (10 :: u) = none := by
  unfold wordB
  rw [if_neg (by decide), if_pos rfl]
theorem wordB_quote : ∀ (b : List UInt8), (10 : UInt8) ∉ b → ∀ v, wordB (quoteB b ++ 34 :: v) = some (b, (quoteB b).length + 1)
  | [], _, v => wordB_end v
  | c :: u, h, v => by
    have hc : c ≠ 10 := fun e => h (by simp [e])
    have ih := wordB_quote u (fun e => h (by simp [e])) v
    unfold quoteB
    by_cases h1 : c = 34 ∨ c = 92
    · rw [if_pos h1, List.cons_append, List.cons_append, wordB_esc _ h1, ih]
      rfl
    · rw [if_neg h1, List.cons_append, wordB_other _ (fun e => h1 (.inl e)) hc (fun e => h1 (.inr e)), ih]
      rfl
/-- Without its last quote it is none. -/
theorem wordB_open : ∀ (b : List UInt8), wordB (quoteB b) = none
  | [] => rfl
  | c :: u => by
    have ih := wordB_open u
    unfold quoteB
    by_cases h1 : c = 34 ∨ c = 92
    · rw [if_pos h1, wordB_esc _ h1, ih]
      rfl
    · rw [if_neg h1]
      by_cases h2 : c = 10
      · subst h2; exact wordB_feed _
      · rw [wordB_other _ (fun e => h1 (.inl e)) h2 (fun e => h1 (.inr e)), ih]
        rfl
/-- A character as it is printed. -/
def codeB (n : Nat) : List UInt8 := 39 :: 92 :: 117 :: 123 :: (hexd n ++ [125])
/-- One sign as it is printed; none: nothing, or a line feed. -/
def one (t : Tk) : Option (List UInt8) :=
  if t.kind = 1 then some (36 :: t.text)
  else if t.kind = 2 then some (34 :: (quoteB t.text ++ [34]))
  else if t.kind = 3 ∨ t.kind = 6 ∨ t.kind = 8 then some t.text
  else if t.kind = 4 then some (codeB (max 0 (min t.r 1114111)).toNat)
  else if t.kind = 5 then some (123 :: (t.text ++ [125]))
  else none
theorem code_next {n : Nat} (h : n < 16 ^ 6) (v : List UInt8) : nextL (codeB n ++ v) = if n ≤ 1114111 then some (⟨4, [], (n : Int)⟩, (codeB n).length) else none := by
  have hl := hexd_len 5 n h
  have hw := tw_id (p := isH) (hexd_H n) (125 :: v) (.inr ⟨125, v, rfl, by decide⟩)
  have e : codeB n ++ v = 39 :: 92 :: 117 :: 123 :: (hexd n ++ 125 :: v) := by simp [codeB]
  rw [e]
  unfold nextL
  simp only
  rw [if_neg (by decide), if_neg (by decide), if_neg (by decide), if_neg (by decide), if_neg (by decide), if_pos trivial]
  unfold charL
  simp only
  rw [if_pos trivial]
  unfold charN
  simp only
  rw [hw, hexd_N, List.drop_append_of_le_length (Nat.le_refl _), List.drop_length, List.nil_append]
  by_cases hn : n ≤ 1114111
  · rw [if_pos ⟨trivial, trivial, hl.1, hl.2, hn, rfl⟩, if_pos hn]
    simp [codeB]
  · rw [if_neg (fun h => hn h.2.2.2.2.1), if_neg hn]
theorem one_V {t : Tk} (h : V t) (hk : t.kind ≠ 7) : ∃ c o, one t = some (c :: o) ∧ blank c = false ∧ c ≠ 35 ∧ c ≠ 10 ∧ nextL (c :: o) = some (t, (c :: o).length) ∧ (c :: o).getLast? ≠ some 10 := by
  cases h with
  | line => exact absurd rfl hk
  | name d h1 h2 h3 =>
    refine ⟨36, d, rfl, by decide, by decide, by decide, ?_, ?_⟩
    · have hw := tw_id h2 [] (.inl rfl)
      rw [List.append_nil] at hw
      unfold nextL
      simp only
      rw [if_neg (by decide), if_pos trivial, hw, if_pos ⟨h1, h3⟩]
      simp; omega
    · cases d with
      | nil => simp at h1
      | cons x w =>
        rw [List.getLast?_cons_cons]
        intro e
        have := h2 10 (List.mem_of_getLast? e)
        exact absurd this (by decide)
  | num c d h1 h2 h3 =>
    have hc := h1 c (by simp)
    have hcn : 48 ≤ c.toNat ∧ c.toNat ≤ 57 := by simpa [isD] using hc
    have hne : ∀ k : UInt8, (k.toNat < 48 ∨ 57 < k.toNat) → c ≠ k := fun k hk e => by subst e; omega
    refine ⟨c, d, rfl, ?_, hne 35 (by decide), hne 10 (by decide), ?_, ?_⟩
    · have := hne 32 (by decide); have := hne 9 (by decide); have := hne 13 (by decide)
      simp [blank, *]
    · have hw := tw_id h1 [] (.inl rfl)
      rw [List.append_nil] at hw
      unfold nextL
      simp only
      rw [if_neg (hne 10 (by decide)), if_neg (hne 36 (by decide)), if_pos hc, hw, if_pos ⟨h2, h3⟩]
    · intro e
      have := h1 10 (List.mem_of_getLast? e)
      exact absurd this (by decide)
  | ident c d h1 h2 =>
    have hcn : 65 ≤ c.toNat := by
      simp only [isL, Bool.or_eq_true, Bool.and_eq_true, decide_eq_true_eq] at h1
      omega
    have hne : ∀ k : UInt8, k.toNat < 65 → c ≠ k := fun k hk e => by subst e; omega
    have hd : isD c = false := by
      have : ¬ c.toNat ≤ 57 := by omega
      simp [isD, this]
    refine ⟨c, d, rfl, ?_, hne 35 (by decide), hne 10 (by decide), ?_, ?_⟩
    · have := hne 32 (by decide); have := hne 9 (by decide); have := hne 13 (by decide)
      simp [blank, *]
    · have hw := tw_id h2 [] (.inl rfl)
      rw [List.append_nil] at hw
      unfold nextL
      simp only
      rw [if_neg (hne 10 (by decide)), if_neg (hne 36 (by decide)), if_neg (by rw [hd]; decide), if_pos h1, hw]
    · intro e
      have := h2 10 (List.mem_of_getLast? e)
      exact absurd this (by decide)
  | word b h1 h2 =>
    refine ⟨34, quoteB b ++ [34], rfl, by decide, by decide, by decide, ?_, ?_⟩
    · unfold nextL
      simp only
      rw [if_neg (by decide), if_neg (by decide), if_neg (by decide), if_neg (by decide), if_pos trivial]
      unfold word
      rw [wordB_quote b h2 []]
      simp only
      rw [if_pos h1]
      simp
    · rw [← List.cons_append, List.getLast?_concat]
      decide
  | char r h1 h2 =>
    have e : (max 0 (min r 1114111)).toNat = r.toNat := by omega
    have hn := code_next (n := r.toNat) (by omega) []
    rw [List.append_nil, if_pos (by omega), show ((r.toNat : Nat) : Int) = r by omega] at hn
    refine ⟨39, 92 :: 117 :: 123 :: (hexd r.toNat ++ [125]), ?_, by decide, by decide, by decide, hn, ?_⟩
    · show some (codeB (max 0 (min r 1114111)).toNat) = _
      rw [e]
      rfl
    · rw [show (39 : UInt8) :: 92 :: 117 :: 123 :: (hexd r.toNat ++ [125]) = (39 :: 92 :: 117 :: 123 :: hexd r.toNat) ++ [125] by simp, List.getLast?_concat]
      decide
  | prop d h1 h2 =>
    refine ⟨123, d ++ [125], rfl, by decide, by decide, by decide, ?_, ?_⟩
    · have hw := tw_id h2 [125] (.inr ⟨125, [], rfl, by decide⟩)
      unfold nextL
      simp only
      rw [if_neg (by decide), if_neg (by decide), if_neg (by decide), if_neg (by decide), if_neg (by decide), if_neg (by decide), if_pos trivial, hw, List.drop_append_of_le_length (Nat.le_refl _), List.drop_length, List.nil_append, if_pos ⟨h1, rfl⟩]
      simp
    · rw [← List.cons_append, List.getLast?_concat]
      decide
  | sign2 d h =>
    rcases h with rfl | rfl
    · exact ⟨62, [60], rfl, by decide, by decide, by decide, by decide, by decide⟩
    · exact ⟨60, [62], rfl, by decide, by decide, by decide, by decide, by decide⟩
  | sign1 c h =>
    have key : ∀ c ∈ signs, blank c = false ∧ c ≠ 35 ∧ c ≠ 10 ∧ nextL [c] = some (⟨6, [c], 0⟩, 1) := by decide
    obtain ⟨k1, k2, k3, k4⟩ := key c h
    exact ⟨c, [], rfl, k1, k2, k3, k4, by simpa using k3⟩
end X
end Go.Proofs.YtidpalighpdlfaaGreatDoor
