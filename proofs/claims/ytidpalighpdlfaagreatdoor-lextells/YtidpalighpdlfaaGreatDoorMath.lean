/- Plain facts on UTF-8: what a list of bytes is read as, one code point behind the other; what a code point's bytes are; to and fro. -/
import Derived.Lib.DecodeN
import Derived.Lib.RuneBytes
namespace Go.Proofs.YtidpalighpdlfaaGreatDoor
namespace M
open Go.Lib

/-- What stands at the beginning of these bytes: a code point, and how many bytes it takes. -/
def dec (bs : List UInt8) : Nat × Nat := decodeN bs.length (bs.getD 0 0).toNat (bs.getD 1 0).toNat (bs.getD 2 0).toNat (bs.getD 3 0).toNat

theorem decodeN_size (n b0 b1 b2 b3 : Nat) (hn : 1 ≤ n) : 1 ≤ (decodeN n b0 b1 b2 b3).2 ∧ (decodeN n b0 b1 b2 b3).2 ≤ n ∧ (decodeN n b0 b1 b2 b3).2 ≤ 4 := by
  unfold decodeN
  repeat' split
  all_goals simp only
  all_goals omega
theorem decodeN_point (n b0 b1 b2 b3 : Nat) (h0 : b0 < 256) : (decodeN n b0 b1 b2 b3).1 < 55296 ∨ (57344 ≤ (decodeN n b0 b1 b2 b3).1 ∧ (decodeN n b0 b1 b2 b3).1 ≤ 1114111) := by
  unfold decodeN
  repeat' split
  all_goals simp only
  all_goals omega

theorem dec_size {bs : List UInt8} (h : bs ≠ []) : 1 ≤ (dec bs).2 ∧ (dec bs).2 ≤ bs.length ∧ (dec bs).2 ≤ 4 :=
  decodeN_size _ _ _ _ _ (by cases bs with | nil => exact absurd rfl h | cons _ _ => simp)
theorem dec_point (bs : List UInt8) : (dec bs).1 < 55296 ∨ (57344 ≤ (dec bs).1 ∧ (dec bs).1 ≤ 1114111) := decodeN_point _ _ _ _ _ (UInt8.toNat_lt _)

/-- What is read so is well-formed. -/
def ok (d : Nat × Nat) : Bool := !(d.1 == 65533) || decide (1 < d.2)

/-- A place, a code point, whether it was well-formed. -/
abbrev Sq := Nat × Nat × Bool

def runs : Nat → Nat → List UInt8 → List Sq
  | 0, _, _ => []
  | _ + 1, _, [] => []
  | f + 1, st, b :: t => (st, (dec (b :: t)).1, ok (dec (b :: t))) :: runs f (st + (dec (b :: t)).2) ((b :: t).drop (dec (b :: t)).2)

theorem runs_fuel : ∀ (f g st : Nat) (bs : List UInt8), bs.length ≤ f → bs.length ≤ g → runs f st bs = runs g st bs
  | 0, g, st, bs, hf, _ => by
    obtain rfl : bs = [] := List.eq_nil_of_length_eq_zero (by omega)
    cases g <;> rfl
  | f + 1, 0, st, bs, _, hg => by
    obtain rfl : bs = [] := List.eq_nil_of_length_eq_zero (by omega)
    rfl
  | f + 1, g + 1, st, [], _, _ => rfl
  | f + 1, g + 1, st, b :: t, hf, hg => by
    have hs := dec_size (bs := b :: t) (by simp)
    simp only [runs]
    rw [runs_fuel f g _ _ (by rw [List.length_drop]; simp only [List.length_cons] at hf ⊢; omega) (by rw [List.length_drop]; simp only [List.length_cons] at hg ⊢; omega)]

/-- All that bytes are read as, from this place on. -/
def rs (st : Nat) (bs : List UInt8) : List Sq := runs bs.length st bs
theorem rs_nil (st : Nat) : rs st [] = [] := rfl
theorem rs_step (st : Nat) {bs : List UInt8} (h : bs ≠ []) : rs st bs = (st, (dec bs).1, ok (dec bs)) :: rs (st + (dec bs).2) (bs.drop (dec bs).2) := by
  cases bs with
  | nil => exact absurd rfl h
  | cons b t =>
    have hs := dec_size (bs := b :: t) (by simp)
    unfold rs
    simp only [List.length_cons, runs]
    rw [runs_fuel t.length _ _ _ (by rw [List.length_drop]; simp only [List.length_cons]; omega) (Nat.le_refl _)]
/-- An induction along the reading. -/
theorem rs_ind {p : List UInt8 → Prop} (h0 : p []) (h1 : ∀ bs, bs ≠ [] → p (bs.drop (dec bs).2) → p bs) (bs : List UInt8) : p bs := by
  generalize hn : bs.length = n
  induction n using Nat.strongRecOn generalizing bs with
  | _ n ih =>
    by_cases hb : bs = []
    · rw [hb]; exact h0
    · have := dec_size hb
      exact h1 bs hb (ih _ (by rw [List.length_drop]; omega) _ rfl)

theorem rs_length : ∀ (bs : List UInt8) (st : Nat), (rs st bs).length ≤ bs.length := by
  intro bs
  induction bs using rs_ind with
  | h0 => intro st; exact Nat.zero_le _
  | h1 bs hb ih =>
    intro st
    have := dec_size hb
    have := ih (st + (dec bs).2)
    rw [List.length_drop] at this
    rw [rs_step st hb, List.length_cons]
    omega

def pts (bs : List UInt8) : List Int := (rs 0 bs).map fun s => (s.2.1 : Int)
def sts (bs : List UInt8) : List Int := (rs 0 bs).map fun s => (s.1 : Int)
def good (bs : List UInt8) : Bool := (rs 0 bs).all fun s => s.2.2

theorem rs_shift : ∀ (bs : List UInt8) (st k : Nat), rs (st + k) bs = (rs st bs).map fun s => (s.1 + k, s.2) := by
  intro bs
  induction bs using rs_ind with
  | h0 => intro st k; rfl
  | h1 bs hb ih =>
    intro st k
    rw [rs_step _ hb, rs_step st hb, List.map_cons, show st + k + (dec bs).2 = st + (dec bs).2 + k by omega, ih]
theorem pts_at (bs : List UInt8) (st : Nat) : (rs st bs).map (fun s => (s.2.1 : Int)) = pts bs := by
  have := rs_shift bs 0 st
  rw [Nat.zero_add] at this
  rw [this, List.map_map]
  rfl
theorem good_at (bs : List UInt8) (st : Nat) : ((rs st bs).all fun s => s.2.2) = good bs := by
  have := rs_shift bs 0 st
  rw [Nat.zero_add] at this
  rw [this, List.all_map]
  rfl
theorem pts_nil : pts [] = [] := rfl
theorem pts_step {bs : List UInt8} (h : bs ≠ []) : pts bs = ((dec bs).1 : Int) :: pts (bs.drop (dec bs).2) := by
  unfold pts
  rw [rs_step 0 h, List.map_cons, pts_at]
  rfl
theorem good_nil : good [] = true := rfl
theorem good_step {bs : List UInt8} (h : bs ≠ []) : good bs = (ok (dec bs) && good (bs.drop (dec bs).2)) := by
  unfold good
  rw [rs_step 0 h, List.all_cons, good_at]
  rfl
theorem pts_length (bs : List UInt8) : (pts bs).length = (sts bs).length := by unfold pts sts; rw [List.length_map, List.length_map]
theorem pts_le (bs : List UInt8) : (pts bs).length ≤ bs.length := by unfold pts; rw [List.length_map]; exact rs_length bs 0

/-- What a number is taken for where code points are asked for. -/
def fix (r : Int) : Int := if (0 ≤ r ∧ r < 55296) ∨ (57344 ≤ r ∧ r ≤ 1114111) then r else 65533
def enc (r : Int) : List UInt8 := encodeRune r
def encs (rs : List Int) : List UInt8 := rs.flatMap enc

theorem enc_length (r : Int) : 1 ≤ (enc r).length ∧ (enc r).length ≤ 4 := by
  have := encodeRuneZ_length r
  unfold enc encodeRune
  rw [List.length_map]
  exact this
theorem encs_length (l : List Int) : (encs l).length ≤ 4 * l.length := by
  induction l with
  | nil => exact Nat.le_refl _
  | cons x l ih =>
    have := enc_length x
    unfold encs at ih ⊢
    rw [List.flatMap_cons, List.length_append, List.length_cons]
    omega

theorem enc_one {r : Int} (h0 : 0 ≤ r) (h1 : r ≤ 127) : enc r = [r.toNat.toUInt8] := by unfold enc encodeRune; rw [encodeRuneZ_one h0 h1]; rfl
theorem enc_two {r : Int} (h0 : 128 ≤ r) (h1 : r ≤ 2047) : enc r = [(192 + r / 64).toNat.toUInt8, (128 + r % 64).toNat.toUInt8] := by unfold enc encodeRune; rw [encodeRuneZ_two h0 h1]; rfl
theorem enc_three {r : Int} (h : (2048 ≤ r ∧ r < 55296) ∨ (57343 < r ∧ r ≤ 65535)) : enc r = [(224 + r / 4096).toNat.toUInt8, (128 + r / 64 % 64).toNat.toUInt8, (128 + r % 64).toNat.toUInt8] := by
  unfold enc encodeRune; rw [encodeRuneZ_three h]; rfl
theorem enc_four {r : Int} (h0 : 65536 ≤ r) (h1 : r ≤ 1114111) : enc r = [(240 + r / 262144).toNat.toUInt8, (128 + r / 4096 % 64).toNat.toUInt8, (128 + r / 64 % 64).toNat.toUInt8, (128 + r % 64).toNat.toUInt8] := by
  unfold enc encodeRune; rw [encodeRuneZ_four h0 h1]; rfl
theorem enc_bad {r : Int} (h : r < 0 ∨ (55296 ≤ r ∧ r ≤ 57343) ∨ 1114111 < r) : enc r = [239, 191, 189] := by unfold enc encodeRune; rw [encodeRuneZ_bad h]; rfl

theorem dec_one (a : UInt8) (t : List UInt8) : dec (a :: t) = decodeN (t.length + 1) a.toNat (t.getD 0 0).toNat (t.getD 1 0).toNat (t.getD 2 0).toNat := rfl
theorem dec_two (a b : UInt8) (t : List UInt8) : dec (a :: b :: t) = decodeN (t.length + 2) a.toNat b.toNat (t.getD 0 0).toNat (t.getD 1 0).toNat := rfl
theorem dec_three (a b c : UInt8) (t : List UInt8) : dec (a :: b :: c :: t) = decodeN (t.length + 3) a.toNat b.toNat c.toNat (t.getD 0 0).toNat := rfl
theorem dec_four (a b c d : UInt8) (t : List UInt8) : dec (a :: b :: c :: d :: t) = decodeN (t.length + 4) a.toNat b.toNat c.toNat d.toNat := rfl

/-- A code point's bytes are read as it, whatever follows. -/
theorem dec_enc (r : Int) (t : List UInt8) : ((dec (enc r ++ t)).1 : Int) = fix r ∧ (dec (enc r ++ t)).2 = (enc r).length ∧ ok (dec (enc r ++ t)) = true := by
  by_cases h1 : 0 ≤ r ∧ r ≤ 127
  · have e : dec (enc r ++ t) = (r.toNat, 1) := by
      rw [enc_one h1.1 h1.2, List.cons_append, List.nil_append, dec_one]
      have : r.toNat.toUInt8.toNat = r.toNat := by rw [Nat.toUInt8, UInt8.toNat_ofNat']; omega
      rw [this]
      unfold decodeN
      rw [if_pos (by omega)]
    rw [e, enc_one h1.1 h1.2]
    refine ⟨?_, rfl, ?_⟩
    · unfold fix; rw [if_pos (by omega)]; simp only; omega
    · simp [ok]; omega
  by_cases h2 : 128 ≤ r ∧ r ≤ 2047
  · have e : dec (enc r ++ t) = (r.toNat, 2) := by
      rw [enc_two h2.1 h2.2, List.cons_append, List.cons_append, List.nil_append, dec_two]
      have e0 : (192 + r / 64).toNat.toUInt8.toNat = 192 + r.toNat / 64 := by rw [Nat.toUInt8, UInt8.toNat_ofNat']; omega
      have e1 : (128 + r % 64).toNat.toUInt8.toNat = 128 + r.toNat % 64 := by rw [Nat.toUInt8, UInt8.toNat_ofNat']; omega
      rw [e0, e1]
      unfold decodeN
      rw [if_neg (by omega), if_pos (by omega), if_pos (by omega)]
      congr 1
      omega
    rw [e, enc_two h2.1 h2.2]
    refine ⟨?_, rfl, by simp [ok]⟩
    unfold fix; rw [if_pos (by omega)]; simp only; omega
  by_cases h3 : (2048 ≤ r ∧ r < 55296) ∨ (57343 < r ∧ r ≤ 65535)
  · have e : dec (enc r ++ t) = (r.toNat, 3) := by
      rw [enc_three h3, List.cons_append, List.cons_append, List.cons_append, List.nil_append, dec_three]
      have e0 : (224 + r / 4096).toNat.toUInt8.toNat = 224 + r.toNat / 4096 := by rw [Nat.toUInt8, UInt8.toNat_ofNat']; omega
      have e1 : (128 + r / 64 % 64).toNat.toUInt8.toNat = 128 + r.toNat / 64 % 64 := by rw [Nat.toUInt8, UInt8.toNat_ofNat']; omega
      have e2 : (128 + r % 64).toNat.toUInt8.toNat = 128 + r.toNat % 64 := by rw [Nat.toUInt8, UInt8.toNat_ofNat']; omega
      rw [e0, e1, e2]
      unfold decodeN
      rw [if_neg (by omega), if_neg (by omega), if_pos (by omega), if_pos (by omega)]
      congr 1
      omega
    rw [e, enc_three h3]
    refine ⟨?_, rfl, by simp [ok]⟩
    unfold fix; rw [if_pos (by omega)]; simp only; omega
  by_cases h4 : 65536 ≤ r ∧ r ≤ 1114111
  · have e : dec (enc r ++ t) = (r.toNat, 4) := by
      rw [enc_four h4.1 h4.2, List.cons_append, List.cons_append, List.cons_append, List.cons_append, List.nil_append, dec_four]
      have e0 : (240 + r / 262144).toNat.toUInt8.toNat = 240 + r.toNat / 262144 := by rw [Nat.toUInt8, UInt8.toNat_ofNat']; omega
      have e1 : (128 + r / 4096 % 64).toNat.toUInt8.toNat = 128 + r.toNat / 4096 % 64 := by rw [Nat.toUInt8, UInt8.toNat_ofNat']; omega
      have e2 : (128 + r / 64 % 64).toNat.toUInt8.toNat = 128 + r.toNat / 64 % 64 := by rw [Nat.toUInt8, UInt8.toNat_ofNat']; omega
      have e3 : (128 + r % 64).toNat.toUInt8.toNat = 128 + r.toNat % 64 := by rw [Nat.toUInt8, UInt8.toNat_ofNat']; omega
      rw [e0, e1, e2, e3]
      unfold decodeN
      rw [if_neg (by omega), if_neg (by omega), if_neg (by omega), if_pos (by omega), if_pos (by omega)]
      congr 1
      omega
    rw [e, enc_four h4.1 h4.2]
    refine ⟨?_, rfl, by simp [ok]⟩
    unfold fix; rw [if_pos (by omega)]; simp only; omega
  · have hb : r < 0 ∨ (55296 ≤ r ∧ r ≤ 57343) ∨ 1114111 < r := by omega
    have e : dec (enc r ++ t) = (65533, 3) := by
      rw [enc_bad hb, List.cons_append, List.cons_append, List.cons_append, List.nil_append, dec_three]
      unfold decodeN
      rw [show (239 : UInt8).toNat = 239 from rfl, show (191 : UInt8).toNat = 191 from rfl, show (189 : UInt8).toNat = 189 from rfl]
      rw [if_neg (by omega), if_neg (by omega), if_pos (by omega), if_pos (by omega)]
    rw [e, enc_bad hb]
    refine ⟨?_, rfl, by simp [ok]⟩
    unfold fix; rw [if_neg (by omega)]; rfl

/-- Bytes of code points, whatever follows. -/
theorem pts_encs (l : List Int) (t : List UInt8) : pts (encs l ++ t) = l.map fix ++ pts t := by
  induction l with
  | nil => rfl
  | cons x l ih =>
    have hx := enc_length x
    have hd := dec_enc x (encs l ++ t)
    have e : encs (x :: l) ++ t = enc x ++ (encs l ++ t) := by unfold encs; rw [List.flatMap_cons, List.append_assoc]
    have hne : enc x ++ (encs l ++ t) ≠ [] := by intro h; have := congrArg List.length h; rw [List.length_append] at this; simp only [List.length_nil] at this; omega
    rw [e, pts_step hne, hd.1, hd.2.1, List.drop_left, ih]
    rfl
theorem good_encs (l : List Int) (t : List UInt8) : good (encs l ++ t) = good t := by
  induction l with
  | nil => rfl
  | cons x l ih =>
    have hx := enc_length x
    have hd := dec_enc x (encs l ++ t)
    have e : encs (x :: l) ++ t = enc x ++ (encs l ++ t) := by unfold encs; rw [List.flatMap_cons, List.append_assoc]
    have hne : enc x ++ (encs l ++ t) ≠ [] := by intro h; have := congrArg List.length h; rw [List.length_append] at this; simp only [List.length_nil] at this; omega
    rw [e, good_step hne, hd.2.2, hd.2.1, List.drop_left, ih]
    rfl

theorem u8_eq {a : UInt8} {n : Int} (h : n = a.toNat) : n.toNat.toUInt8 = a := by
  apply UInt8.toNat_inj.1
  rw [Nat.toUInt8, UInt8.toNat_ofNat']
  have := UInt8.toNat_lt a
  omega

/-- What is read as well-formed is that code point's bytes. -/
theorem enc_dec (bs : List UInt8) (hb : bs ≠ []) (h : ok (dec bs) = true) : enc ((dec bs).1 : Int) = bs.take (dec bs).2 := by
  have key : ∀ (n b0 b1 b2 b3 : Nat), ok (decodeN n b0 b1 b2 b3) = true →
      (b0 < 128 ∧ decodeN n b0 b1 b2 b3 = (b0, 1)) ∨
      (b0 / 32 = 6 ∧ 1 < n ∧ b1 / 64 = 2 ∧ b0 % 32 * 64 + b1 % 64 ≥ 128 ∧ decodeN n b0 b1 b2 b3 = (b0 % 32 * 64 + b1 % 64, 2)) ∨
      (b0 / 16 = 14 ∧ 2 < n ∧ b1 / 64 = 2 ∧ b2 / 64 = 2 ∧ b0 % 16 * 4096 + b1 % 64 * 64 + b2 % 64 ≥ 2048 ∧ (b0 % 16 * 4096 + b1 % 64 * 64 + b2 % 64 < 55296 ∨ 57344 ≤ b0 % 16 * 4096 + b1 % 64 * 64 + b2 % 64) ∧ decodeN n b0 b1 b2 b3 = (b0 % 16 * 4096 + b1 % 64 * 64 + b2 % 64, 3)) ∨
      (b0 / 8 = 30 ∧ 3 < n ∧ b1 / 64 = 2 ∧ b2 / 64 = 2 ∧ b3 / 64 = 2 ∧ b0 % 8 * 262144 + b1 % 64 * 4096 + b2 % 64 * 64 + b3 % 64 ≥ 65536 ∧ b0 % 8 * 262144 + b1 % 64 * 4096 + b2 % 64 * 64 + b3 % 64 ≤ 1114111 ∧ decodeN n b0 b1 b2 b3 = (b0 % 8 * 262144 + b1 % 64 * 4096 + b2 % 64 * 64 + b3 % 64, 4)) := by
    intro n b0 b1 b2 b3 hok
    unfold decodeN at hok ⊢
    split
    · exact .inl ⟨by assumption, rfl⟩
    · rename_i c0
      rw [if_neg c0] at hok
      split
      · rename_i c1
        rw [if_pos c1] at hok
        split
        · exact .inr (.inl ⟨c1.1, c1.2.1, c1.2.2, by assumption, rfl⟩)
        · rename_i c2
          rw [if_neg c2] at hok
          simp [ok] at hok
      · rename_i c1
        rw [if_neg c1] at hok
        split
        · rename_i c2
          rw [if_pos c2] at hok
          split
          · rename_i c3
            exact .inr (.inr (.inl ⟨c2.1, c2.2.2.1, c2.2.1.2, c2.2.2.2, c3.1, by omega, rfl⟩))
          · rename_i c3
            rw [if_neg c3] at hok
            simp [ok] at hok
        · rename_i c2
          rw [if_neg c2] at hok
          split
          · rename_i c3
            rw [if_pos c3] at hok
            split
            · rename_i c4
              exact .inr (.inr (.inr ⟨c3.1, c3.2.2.2.1, c3.2.1.2, c3.2.2.1.2, c3.2.2.2.2, c4.1, by omega, rfl⟩))
            · rename_i c4
              rw [if_neg c4] at hok
              simp [ok] at hok
          · rename_i c3
            rw [if_neg c3] at hok
            simp [ok] at hok
  unfold dec at h ⊢
  match bs, hb with
  | a :: t, _ =>
    have ha := UInt8.toNat_lt a
    rcases key _ _ _ _ _ h with ⟨c, e⟩ | ⟨c0, cn, c1, cp, e⟩ | ⟨c0, cn, c1, c2, cp, cq, e⟩ | ⟨c0, cn, c1, c2, c3, cp, cq, e⟩
    · rw [e]
      simp only [List.getD_cons_zero] at c ⊢
      rw [enc_one (by omega) (by omega), u8_eq rfl]
      rfl
    · obtain _ | ⟨b, t⟩ := t
      · simp at cn
      have hb := UInt8.toNat_lt b
      rw [e]
      simp only [List.getD_cons_zero, List.getD_cons_succ] at c0 c1 cp ⊢
      rw [enc_two (by omega) (by omega), u8_eq (a := a) (by omega), u8_eq (a := b) (by omega)]
      rfl
    · obtain _ | ⟨b, _ | ⟨c, t⟩⟩ := t
      · simp at cn
      · simp at cn
      have hb := UInt8.toNat_lt b
      have hc := UInt8.toNat_lt c
      rw [e]
      simp only [List.getD_cons_zero, List.getD_cons_succ] at c0 c1 c2 cp cq ⊢
      rw [enc_three (by omega), u8_eq (a := a) (by omega), u8_eq (a := b) (by omega), u8_eq (a := c) (by omega)]
      rfl
    · obtain _ | ⟨b, _ | ⟨c, _ | ⟨d, t⟩⟩⟩ := t
      · simp at cn
      · simp at cn
      · simp at cn
      have hb := UInt8.toNat_lt b
      have hc := UInt8.toNat_lt c
      have hd := UInt8.toNat_lt d
      rw [e]
      simp only [List.getD_cons_zero, List.getD_cons_succ] at c0 c1 c2 c3 cp cq ⊢
      rw [enc_four (by omega) (by omega), u8_eq (a := a) (by omega), u8_eq (a := b) (by omega), u8_eq (a := c) (by omega), u8_eq (a := d) (by omega)]
      rfl

/-- What is well-formed is itself to and fro. -/
theorem encs_pts (bs : List UInt8) : good bs = true → encs (pts bs) = bs := by
  induction bs using rs_ind with
  | h0 => intro _; rfl
  | h1 bs hb ih =>
    intro hg
    rw [good_step hb, Bool.and_eq_true] at hg
    have : encs (pts bs) = enc ((dec bs).1 : Int) ++ encs (pts (bs.drop (dec bs).2)) := by rw [pts_step hb]; unfold encs; rw [List.flatMap_cons]
    rw [this, ih hg.2, enc_dec bs hb hg.1, List.take_append_drop]

theorem rs_valid : ∀ (bs : List UInt8) (st : Nat), ∀ s ∈ rs st bs, fix (s.2.1 : Int) = (s.2.1 : Int) := by
  intro bs
  induction bs using rs_ind with
  | h0 => intro st s hs; cases hs
  | h1 bs hb ih =>
    intro st s hs
    rw [rs_step st hb] at hs
    rcases List.mem_cons.1 hs with rfl | hs
    · have := dec_point bs
      simp only
      unfold fix
      rw [if_pos (by omega)]
    · exact ih _ s hs
theorem fix_pts (bs : List UInt8) : (pts bs).map fix = pts bs := by
  unfold pts
  rw [List.map_map]
  refine List.map_congr_left fun s hs => ?_
  rw [Function.comp_apply]
  exact rs_valid bs 0 s hs

/-- To, fro and to again. -/
theorem pts_back (bs : List UInt8) : pts (encs (pts bs)) = pts bs := by
  have := pts_encs (pts bs) []
  rw [List.append_nil, pts_nil, List.append_nil, fix_pts] at this
  exact this
theorem good_back (l : List Int) : good (encs l) = true := by
  have := good_encs l []
  rw [List.append_nil] at this
  exact this
theorem good_iff (bs : List UInt8) : good bs = true ↔ bs = encs (pts bs) := by
  constructor
  · intro h; exact (encs_pts bs h).symm
  · intro h; rw [h]; exact good_back _
end M
end Go.Proofs.YtidpalighpdlfaaGreatDoor
