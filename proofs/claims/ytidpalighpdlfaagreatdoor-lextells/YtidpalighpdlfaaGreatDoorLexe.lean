/- Signs: blanks and comments behind a text; numbers, names, characters, words at their bounds; lines. -/
import Derived.Test.YtidpalighpdlfaaGreatDoorLexd
namespace Go.Proofs.YtidpalighpdlfaaGreatDoor
namespace X
open M

theorem scan_comment (at_ : Nat) (u : List UInt8) (h : ∀ c ∈ u, c ≠ 10) : scan at_ (35 :: u) = .ok [(tEnd, at_ + (35 :: u).length)] := by
  have hw := tw_id (p := (· ≠ 10)) (d := 35 :: u) (fun c hc => by
    rcases List.mem_cons.1 hc with rfl | hc
    · decide
    · simpa using h c hc) [] (.inl rfl)
  rw [List.append_nil] at hw
  rw [scan_com, hw, List.drop_length, scan_nil]
  rfl
def tails : List (List UInt8) := [[32], [9, 13], [32, 35, 32, 97, 32, 39, 99, 111, 109, 109, 101, 110, 116, 32, 34], [35]]
theorem tail_of : ∀ v ∈ tails, Tail v := by
  intro v hv
  simp only [tails, List.mem_cons, List.not_mem_nil, or_false] at hv
  rcases hv with rfl | rfl | rfl | rfl
  · exact ⟨.inr ⟨32, _, rfl, by decide⟩, by decide, fun at_ => by rw [scan_blank at_ _ (by decide), scan_nil]; rfl⟩
  · exact ⟨.inr ⟨9, _, rfl, by decide⟩, by decide, fun at_ => by rw [scan_blank at_ _ (by decide), scan_blank _ _ (by decide), scan_nil]; rfl⟩
  · refine ⟨.inr ⟨32, _, rfl, by decide⟩, by decide, fun at_ => ?_⟩
    rw [scan_blank at_ _ (by decide), scan_comment _ _ (by decide)]
    simp [Nat.add_assoc]
  · exact ⟨.inr ⟨35, _, rfl, by decide⟩, by decide, fun at_ => scan_comment at_ [] (by simp)⟩
/-- LexBlanks. -/
theorem blanks {s : List UInt8} {l : List (Tk × Nat)} (h : scan 0 s = .ok l) {v : List UInt8} (hv : v ∈ tails) :
    ∃ l2, scan 0 (32 :: (s ++ v)) = .ok l2 ∧ l2.length = l.length ∧ ∀ i (h1 : i < l.length) (h2 : i < l2.length), l2[i].1 = l[i].1 ∧ (l2[i].1.kind ≠ 0 → l2[i].2 = l[i].2 + 1) := by
  obtain ⟨l', rfl, h2⟩ := scan_more (tail_of v hv) 0 s l h
  have h3 := scan_shift 1 0 (s ++ v) _ h2
  refine ⟨_, by rw [scan_blank 0 _ (by decide)]; exact h3, by simp, fun i h1 h4 => ?_⟩
  by_cases hi : i < l'.length
  · simp only [List.getElem_map]
    rw [List.getElem_append_left hi, List.getElem_append_left hi]
    exact ⟨rfl, fun _ => rfl⟩
  · have hi2 : i = l'.length := by simp at h1; omega
    subst hi2
    simp [tEnd]

/-- One sign is all of the text. -/
theorem scan_one {c : UInt8} {u : List UInt8} {t : Tk} (hb : blank c = false) (h35 : c ≠ 35) (h : nextL (c :: u) = some (t, (c :: u).length)) : scan 0 (c :: u) = .ok [(t, 0), (tEnd, (c :: u).length)] := by
  rw [scan_some 0 u hb h35 h, List.drop_length, scan_nil]
  simp [Except.map, tEnd]
/-- LexNumbers: a character by its number. -/
theorem scan_code {n : Nat} (h : n < 16 ^ 6) : scan 0 (codeB n) = if n ≤ 1114111 then .ok [(⟨4, [], (n : Int)⟩, 0), (tEnd, (codeB n).length)] else .error 0 := by
  have hn := code_next h []
  rw [List.append_nil] at hn
  by_cases h1 : n ≤ 1114111
  · rw [if_pos h1] at hn ⊢
    exact scan_one (c := 39) (by decide) (by decide) hn
  · rw [if_neg h1] at hn ⊢
    exact scan_none 0 _ (by decide) (by decide) hn
/-- LexNumbers: a name of j + 1 letters. -/
theorem scan_name (j : Nat) : scan 0 (36 :: 97 :: List.replicate j 98) = if j + 1 ≤ 20 then .ok [(⟨1, 97 :: List.replicate j 98, 0⟩, 0), (tEnd, j + 2)] else .error 0 := by
  have hw := tw_id (p := isLD) (d := 97 :: List.replicate j 98) (fun c hc => by
    rcases List.mem_cons.1 hc with rfl | hc
    · decide
    · rw [List.eq_of_mem_replicate hc]; decide) [] (.inl rfl)
  rw [List.append_nil] at hw
  have hn : nextL (36 :: 97 :: List.replicate j 98) = if j + 1 ≤ 20 then some (⟨1, 97 :: List.replicate j 98, 0⟩, (36 :: 97 :: List.replicate j (98 : UInt8)).length) else none := by
    unfold nextL
    simp only
    rw [if_neg (by decide), if_pos trivial, hw]
    by_cases h1 : j + 1 ≤ 20
    · rw [if_pos ⟨rfl, by simpa using h1⟩, if_pos h1]
      simp [Nat.add_comm]
    · rw [if_neg (fun h => h1 (by simpa using h.2)), if_neg h1]
  by_cases h1 : j + 1 ≤ 20
  · rw [if_pos h1] at hn ⊢
    rw [scan_one (by decide) (by decide) hn]
    simp
  · rw [if_neg h1] at hn ⊢
    exact scan_none 0 _ (by decide) (by decide) hn

/-- Decimal digits. -/
def decd (n : Nat) : List UInt8 := if _h : n < 10 then [(48 + n).toUInt8] else decd (n / 10) ++ [(48 + n % 10).toUInt8]
termination_by n
decreasing_by omega
theorem decd_small {n : Nat} (h : n < 10) : decd n = [(48 + n).toUInt8] := by rw [decd, dif_pos h]
theorem decd_big {n : Nat} (h : ¬ n < 10) : decd n = decd (n / 10) ++ [(48 + n % 10).toUInt8] := by rw [decd, dif_neg h]
theorem dig_D : ∀ d, d < 10 → isD ((48 + d).toUInt8) = true := by decide
theorem dig_nz : ∀ d, d < 10 → 0 < d → (48 + d).toUInt8 ≠ 48 := by decide
theorem decd_D : ∀ n, ∀ c ∈ decd n, isD c = true := by
  intro n
  induction n using Nat.strongRecOn with
  | ind n ih =>
    by_cases h : n < 10
    · rw [decd_small h]
      intro c hc
      obtain rfl : c = (48 + n).toUInt8 := by simpa using hc
      exact dig_D n h
    · rw [decd_big h]
      intro c hc
      rcases List.mem_append.1 hc with h1 | h1
      · exact ih (n / 10) (by omega) c h1
      · obtain rfl : c = (48 + n % 10).toUInt8 := by simpa using h1
        exact dig_D _ (by omega)
theorem decd_len : ∀ (k n : Nat), (decd n).length ≤ k + 1 ↔ n < 10 ^ (k + 1)
  | 0, n => by
    by_cases h : n < 10
    · rw [decd_small h]; simp [h]
    · rw [decd_big h]
      have : 1 ≤ (decd (n / 10)).length := by
        by_cases h2 : n / 10 < 10
        · rw [decd_small h2]; simp
        · rw [decd_big h2]; simp
      simp [h]
      intro e
      rw [e] at this
      simp at this
  | k + 1, n => by
    by_cases h : n < 10
    · rw [decd_small h]
      have : (10 : Nat) ≤ 10 ^ (k + 1 + 1) := by
        rw [Nat.pow_succ]
        have : 0 < 10 ^ (k + 1) := Nat.pow_pos (by decide)
        omega
      simp
      omega
    · rw [decd_big h, List.length_append, List.length_singleton]
      have ih := decd_len k (n / 10)
      have e : n < 10 ^ (k + 1 + 1) ↔ n / 10 < 10 ^ (k + 1) := by rw [Nat.pow_succ, Nat.div_lt_iff_lt_mul (by decide)]
      rw [e, ← ih]
      omega
theorem decd_head : ∀ n, ∃ c u, decd n = c :: u ∧ (c = 48 → n = 0) := by
  intro n
  induction n using Nat.strongRecOn with
  | ind n ih =>
    by_cases h : n < 10
    · refine ⟨_, _, decd_small h, fun e => ?_⟩
      rcases Nat.eq_zero_or_pos n with h0 | h0
      · exact h0
      · exact absurd e (dig_nz n h h0)
    · obtain ⟨c, u, h1, h2⟩ := ih (n / 10) (by omega)
      refine ⟨c, u ++ [(48 + n % 10).toUInt8], by rw [decd_big h, h1]; rfl, fun e => ?_⟩
      have := h2 e
      omega
theorem dig_next {c : UInt8} {u : List UInt8} (h : ∀ x ∈ c :: u, isD x = true) : nextL (c :: u) = if (c :: u).length ≤ 4 ∧ ¬ (1 < (c :: u).length ∧ c = 48) then some (⟨3, c :: u, 0⟩, (c :: u).length) else none := by
  have hc := h c (by simp)
  have hcn : 48 ≤ c.toNat ∧ c.toNat ≤ 57 := by simpa [isD] using hc
  have hne : ∀ k : UInt8, (k.toNat < 48 ∨ 57 < k.toNat) → c ≠ k := fun k hk e => by subst e; omega
  have hw := tw_id h [] (.inl rfl)
  rw [List.append_nil] at hw
  unfold nextL
  simp only
  rw [if_neg (hne 10 (by decide)), if_neg (hne 36 (by decide)), if_pos hc, hw]
theorem dig_plain {c : UInt8} (h : isD c = true) : blank c = false ∧ c ≠ 35 := by
  have hcn : 48 ≤ c.toNat ∧ c.toNat ≤ 57 := by simpa [isD] using h
  have hne : ∀ k : UInt8, (k.toNat < 48 ∨ 57 < k.toNat) → c ≠ k := fun k hk e => by subst e; omega
  have := hne 32 (by decide); have := hne 9 (by decide); have := hne 13 (by decide)
  exact ⟨by simp [blank, *], hne 35 (by decide)⟩
/-- LexNumbers: a number. -/
theorem scan_num (n : Nat) : scan 0 (decd n) = if n ≤ 9999 then .ok [(⟨3, decd n, 0⟩, 0), (tEnd, (decd n).length)] else .error 0 := by
  obtain ⟨c, u, h1, h2⟩ := decd_head n
  have hD := decd_D n
  have hl := decd_len 3 n
  rw [h1] at hD hl ⊢
  have hn := dig_next hD
  have hp := dig_plain (hD c (by simp))
  have hz : ¬ (1 < (c :: u).length ∧ c = 48) := fun ⟨h3, h4⟩ => by
    have := h2 h4
    subst this
    rw [decd_small (by decide)] at h1
    cases h1
    simp at h3
  by_cases h3 : n ≤ 9999
  · rw [if_pos ⟨hl.2 (by omega), hz⟩] at hn
    rw [if_pos h3]
    exact scan_one hp.1 hp.2 hn
  · rw [if_neg (fun h => h3 (by have := hl.1 h.1; omega))] at hn
    rw [if_neg h3]
    exact scan_none 0 u hp.1 hp.2 hn
/-- LexNumbers: a nought ahead of a number. -/
theorem scan_nought (n : Nat) : scan 0 (55 :: 32 :: 48 :: decd n) = .error 2 := by
  obtain ⟨c, u, h1, _⟩ := decd_head n
  have hD := decd_D n
  rw [h1] at hD ⊢
  have hn := dig_next (c := 48) (u := c :: u) (fun x hx => by
    rcases List.mem_cons.1 hx with rfl | hx
    · decide
    · exact hD x hx)
  rw [if_neg (fun h => h.2 ⟨by simp, rfl⟩)] at hn
  have h7 : nextL (55 :: 32 :: 48 :: c :: u) = some (⟨3, [55], 0⟩, 1) := next_ext (s := [55]) (v := 32 :: 48 :: c :: u) (by decide) (.inr ⟨32, _, rfl, by decide⟩)
  rw [scan_some 0 _ (by decide) (by decide) h7, List.drop_succ_cons, List.drop_zero, scan_blank _ _ (by decide), scan_none _ _ (by decide) (by decide) hn]
  rfl

/-- LexWords: printable text is well-formed. -/
theorem good_ascii : ∀ (b : List UInt8), (∀ c ∈ b, c.toNat < 128) → good b = true
  | [], _ => rfl
  | c :: u, h => by
    have hc := h c (by simp)
    have e : enc (c.toNat : Int) = [c] := by
      rw [enc_one (by omega) (by omega)]
      simp
    have h1 := dec_enc (c.toNat : Int) u
    rw [e, List.singleton_append] at h1
    rw [good_step (by simp), h1.2.2, h1.2.1]
    simpa using good_ascii u fun x hx => h x (by simp [hx])
theorem scan_word {b : List UInt8} (h : ∀ c ∈ b, 32 ≤ c.toNat ∧ c.toNat < 127) : scan 0 (34 :: (quoteB b ++ [34])) = .ok [(⟨2, b, 0⟩, 0), (tEnd, (34 :: (quoteB b ++ [34])).length)] := by
  have hn : (10 : UInt8) ∉ b := fun e => by have := h 10 e; revert this; decide
  have hv : V ⟨2, b, 0⟩ := .word b (good_ascii b fun c hc => by have := h c hc; omega) hn
  obtain ⟨c, o, ho, h1, h2, _, h3, _⟩ := one_V hv (by show (2 : Nat) ≠ 7; decide)
  cases ho
  exact scan_one h1 h2 h3
theorem scan_open (b : List UInt8) : scan 0 (55 :: 32 :: 34 :: quoteB b) = .error 2 := by
  have hn : nextL (34 :: quoteB b) = none := by
    unfold nextL
    simp only
    rw [if_neg (by decide), if_neg (by decide), if_neg (by decide), if_neg (by decide), if_pos trivial]
    unfold word
    rw [wordB_open]
  have h7 : nextL (55 :: 32 :: 34 :: quoteB b) = some (⟨3, [55], 0⟩, 1) := next_ext (s := [55]) (v := 32 :: 34 :: quoteB b) (by decide) (.inr ⟨32, _, rfl, by decide⟩)
  rw [scan_some 0 _ (by decide) (by decide) h7, List.drop_succ_cons, List.drop_zero, scan_blank _ _ (by decide), scan_none _ _ (by decide) (by decide) hn]
  rfl
theorem scan_feed : scan 0 [34, 97, 10, 98, 34] = .error 0 := rfl
/-- LexChars: a character by itself. -/
theorem scan_char {r : Int} (h0 : 32 ≤ r) (h1 : r ≤ 1114111) (h2 : ¬ (55296 ≤ r ∧ r ≤ 57343)) (h3 : r ≠ 92) : scan 0 (39 :: enc r) = .ok [(⟨4, [], r⟩, 0), (tEnd, (39 :: enc r).length)] := by
  have hd := dec_enc r []
  rw [List.append_nil] at hd
  have hf : fix r = r := by unfold fix; rw [if_pos (by omega)]
  rw [hf] at hd
  have hlen := enc_length r
  refine scan_one (by decide) (by decide) ?_
  unfold nextL
  simp only
  rw [if_neg (by decide), if_neg (by decide), if_neg (by decide), if_neg (by decide), if_neg (by decide), if_pos trivial]
  cases he : enc r with
  | nil => rw [he] at hlen; simp at hlen
  | cons c v =>
    have hc : c ≠ 92 := fun e => by
      subst e
      rw [he] at hd
      have h5 := hd.1
      have h6 : dec (92 :: v) = (92, 1) := by
        have h7 := dec_enc 92 v
        rw [enc_one (by decide) (by decide)] at h7
        have h8 : fix 92 = 92 := by decide
        rw [h8] at h7
        refine Prod.ext ?_ ?_
        · have := h7.1; exact Int.ofNat.inj this
        · exact h7.2.1
      rw [h6] at h5
      exact h3 h5.symm
    rw [he] at hd
    unfold charL
    simp only
    rw [if_neg hc, if_pos ⟨hd.2.2, fun e => by have := hd.1; rw [e] at this; omega⟩, hd.1, hd.2.1]
    simp
end X
end Go.Proofs.YtidpalighpdlfaaGreatDoor
