/- Joined: JA. -/
import Derived.Lib.DecodeN
import Derived.Lib.RuneBytes
import Derived.WalkKit
import Derived.WalkSpells
import Derived.WalkLawsBesides
import Derived.BigQuiet
import Derived.Test.YtgngaldoemopjaaGreatDoorProg
import Derived.Laws.AppendOwnNone
import Derived.Laws.BytesArg
import Derived.Lib.SlBytesConst
namespace Go.Proofs.YtgngaldoemopjaaGreatDoor
namespace M
open Go.Lib
def dec (bs : List UInt8) : Nat × Nat := decodeN bs.length (bs.getD 0 0).toNat (bs.getD 1 0).toNat (bs.getD 2 0).toNat (bs.getD 3 0).toNat
theorem decodeN_size (n b0 b1 b2 b3 : Nat) (hn : 1 ≤ n) : 1 ≤ (decodeN n b0 b1 b2 b3).2 ∧ (decodeN n b0 b1 b2 b3).2 ≤ n ∧ (decodeN n b0 b1 b2 b3).2 ≤ 4 := by
 unfold decodeN
 repeat' split
 all_goals simp only
 all_goals omega
theorem decodeN_point (n b0 b1 b2 b3 : Nat) (h0 : b0 < 256) : (decodeN n b0 b1 b2 b3).1 < 55296 ∨ (57344 ≤ (decodeN n b0 b1 b2 b3).1 ∧ (decodeN n b0 b1 b2 b3).1 ≤ 1114111) := by
 unfold decodeN
 repeat' split
 all_goals simp only
 all_goals omega
theorem dec_size {bs : List UInt8} (h : bs ≠ []) : 1 ≤ (dec bs).2 ∧ (dec bs).2 ≤ bs.length ∧ (dec bs).2 ≤ 4 :=
 decodeN_size _ _ _ _ _ (by cases bs with | nil => exact absurd rfl h | cons _ _ => simp)
theorem dec_point (bs : List UInt8) : (dec bs).1 < 55296 ∨ (57344 ≤ (dec bs).1 ∧ (dec bs).1 ≤ 1114111) := decodeN_point _ _ _ _ _ (UInt8.toNat_lt _)
def ok (d : Nat × Nat) : Bool := !(d.1 == 65533) || decide (1 < d.2)
abbrev Sq := Nat × Nat × Bool
def runs : Nat → Nat → List UInt8 → List Sq
 | 0, _, _ => []
 | _ + 1, _, [] => []
 | f + 1, st, b :: t => (st, (dec (b :: t)).1, ok (dec (b :: t))) :: runs f (st + (dec (b :: t)).2) ((b :: t).drop (dec (b :: t)).2)
theorem runs_fuel : ∀ (f g st : Nat) (bs : List UInt8), bs.length ≤ f → bs.length ≤ g → runs f st bs = runs g st bs
 | 0, g, st, bs, hf, _ => by
   obtain rfl : bs = [] := List.eq_nil_of_length_eq_zero (by omega)
   cases g <;> rfl
 | f + 1, 0, st, bs, _, hg => by
   obtain rfl : bs = [] := List.eq_nil_of_length_eq_zero (by omega)
   rfl
 | f + 1, g + 1, st, [], _, _ => rfl
 | f + 1, g + 1, st, b :: t, hf, hg => by
   have hs := dec_size (bs := b :: t) (by simp)
   simp only [runs]
   rw [runs_fuel f g _ _ (by rw [List.length_drop]; simp only [List.length_cons] at hf ⊢; omega) (by rw [List.length_drop]; simp only [List.length_cons] at hg ⊢; omega)]
def rs (st : Nat) (bs : List UInt8) : List Sq := runs bs.length st bs
theorem rs_nil (st : Nat) : rs st [] = [] := rfl
theorem rs_step (st : Nat) {bs : List UInt8} (h : bs ≠ []) : rs st bs = (st, (dec bs).1, ok (dec bs)) :: rs (st + (dec bs).2) (bs.drop (dec bs).2) := by
 cases bs with
 | nil => exact absurd rfl h
 | cons b t =>
   have hs := dec_size (bs := b :: t) (by simp)
   unfold rs
   simp only [List.length_cons, runs]
   rw [runs_fuel t.length _ _ _ (by rw [List.length_drop]; simp only [List.length_cons]; omega) (Nat.le_refl _)]
theorem rs_ind {p : List UInt8 → Prop} (h0 : p []) (h1 : ∀ bs, bs ≠ [] → p (bs.drop (dec bs).2) → p bs) (bs : List UInt8) : p bs := by
 generalize hn : bs.length = n
 induction n using Nat.strongRecOn generalizing bs with
 | _ n ih =>
   by_cases hb : bs = []
   · rw [hb]; exact h0
   · have := dec_size hb
     exact h1 bs hb (ih _ (by rw [List.length_drop]; omega) _ rfl)
theorem rs_length : ∀ (bs : List UInt8) (st : Nat), (rs st bs).length ≤ bs.length := by
 intro bs
 induction bs using rs_ind with
 | h0 => intro st; exact Nat.zero_le _
 | h1 bs hb ih =>
   intro st
   have := dec_size hb
   have := ih (st + (dec bs).2)
   rw [List.length_drop] at this
   rw [rs_step st hb, List.length_cons]
   omega
def pts (bs : List UInt8) : List Int := (rs 0 bs).map fun s => (s.2.1 : Int)
def sts (bs : List UInt8) : List Int := (rs 0 bs).map fun s => (s.1 : Int)
def good (bs : List UInt8) : Bool := (rs 0 bs).all fun s => s.2.2
theorem rs_shift : ∀ (bs : List UInt8) (st k : Nat), rs (st + k) bs = (rs st bs).map fun s => (s.1 + k, s.2) := by
 intro bs
 induction bs using rs_ind with
 | h0 => intro st k; rfl
 | h1 bs hb ih =>
   intro st k
   rw [rs_step _ hb, rs_step st hb, List.map_cons, show st + k + (dec bs).2 = st + (dec bs).2 + k by omega, ih]
theorem pts_at (bs : List UInt8) (st : Nat) : (rs st bs).map (fun s => (s.2.1 : Int)) = pts bs := by
 have := rs_shift bs 0 st
 rw [Nat.zero_add] at this
 rw [this, List.map_map]
 rfl
theorem good_at (bs : List UInt8) (st : Nat) : ((rs st bs).all fun s => s.2.2) = good bs := by
 have := rs_shift bs 0 st
 rw [Nat.zero_add] at this
 rw [this, List.all_map]
 rfl
theorem pts_step {bs : List UInt8} (h : bs ≠ []) : pts bs = ((dec bs).1 : Int) :: pts (bs.drop (dec bs).2) := by
 unfold pts
 rw [rs_step 0 h, List.map_cons, pts_at]
 rfl
theorem good_nil : good [] = true := rfl
theorem good_step {bs : List UInt8} (h : bs ≠ []) : good bs = (ok (dec bs) && good (bs.drop (dec bs).2)) := by
 unfold good
 rw [rs_step 0 h, List.all_cons, good_at]
 rfl
theorem pts_length (bs : List UInt8) : (pts bs).length = (sts bs).length := by unfold pts sts; rw [List.length_map, List.length_map]
theorem pts_le (bs : List UInt8) : (pts bs).length ≤ bs.length := by unfold pts; rw [List.length_map]; exact rs_length bs 0
def fix (r : Int) : Int := if (0 ≤ r ∧ r < 55296) ∨ (57344 ≤ r ∧ r ≤ 1114111) then r else 65533
def enc (r : Int) : List UInt8 := encodeRune r
theorem enc_one {r : Int} (h0 : 0 ≤ r) (h1 : r ≤ 127) : enc r = [r.toNat.toUInt8] := by unfold enc encodeRune; rw [encodeRuneZ_one h0 h1]; rfl
theorem enc_two {r : Int} (h0 : 128 ≤ r) (h1 : r ≤ 2047) : enc r = [(192 + r / 64).toNat.toUInt8, (128 + r % 64).toNat.toUInt8] := by unfold enc encodeRune; rw [encodeRuneZ_two h0 h1]; rfl
theorem enc_three {r : Int} (h : (2048 ≤ r ∧ r < 55296) ∨ (57343 < r ∧ r ≤ 65535)) : enc r = [(224 + r / 4096).toNat.toUInt8, (128 + r / 64 % 64).toNat.toUInt8, (128 + r % 64).toNat.toUInt8] := by
 unfold enc encodeRune; rw [encodeRuneZ_three h]; rfl
theorem enc_four {r : Int} (h0 : 65536 ≤ r) (h1 : r ≤ 1114111) : enc r = [(240 + r / 262144).toNat.toUInt8, (128 + r / 4096 % 64).toNat.toUInt8, (128 + r / 64 % 64).toNat.toUInt8, (128 + r % 64).toNat.toUInt8] := by
 unfold enc encodeRune; rw [encodeRuneZ_four h0 h1]; rfl
theorem enc_bad {r : Int} (h : r < 0 ∨ (55296 ≤ r ∧ r ≤ 57343) ∨ 1114111 < r) : enc r = [239, 191, 189] := by unfold enc encodeRune; rw [encodeRuneZ_bad h]; rfl
theorem dec_one (a : UInt8) (t : List UInt8) : dec (a :: t) = decodeN (t.length + 1) a.toNat (t.getD 0 0).toNat (t.getD 1 0).toNat (t.getD 2 0).toNat := rfl
theorem dec_two (a b : UInt8) (t : List UInt8) : dec (a :: b :: t) = decodeN (t.length + 2) a.toNat b.toNat (t.getD 0 0).toNat (t.getD 1 0).toNat := rfl
theorem dec_three (a b c : UInt8) (t : List UInt8) : dec (a :: b :: c :: t) = decodeN (t.length + 3) a.toNat b.toNat c.toNat (t.getD 0 0).toNat := rfl
theorem dec_four (a b c d : UInt8) (t : List UInt8) : dec (a :: b :: c :: d :: t) = decodeN (t.length + 4) a.toNat b.toNat c.toNat d.toNat := rfl
theorem dec_enc (r : Int) (t : List UInt8) : ((dec (enc r ++ t)).1 : Int) = fix r ∧ (dec (enc r ++ t)).2 = (enc r).length ∧ ok (dec (enc r ++ t)) = true := by
 by_cases h1 : 0 ≤ r ∧ r ≤ 127
 · have e : dec (enc r ++ t) = (r.toNat, 1) := by
     rw [enc_one h1.1 h1.2, List.cons_append, List.nil_append, dec_one]
     have : r.toNat.toUInt8.toNat = r.toNat := by rw [Nat.toUInt8, UInt8.toNat_ofNat']; omega
     rw [this]
     unfold decodeN
     rw [if_pos (by omega)]
   rw [e, enc_one h1.1 h1.2]
   refine ⟨?_, rfl, ?_⟩
   · unfold fix; rw [if_pos (by omega)]; simp only; omega
   · simp [ok]; omega
 by_cases h2 : 128 ≤ r ∧ r ≤ 2047
 · have e : dec (enc r ++ t) = (r.toNat, 2) := by
     rw [enc_two h2.1 h2.2, List.cons_append, List.cons_append, List.nil_append, dec_two]
     have e0 : (192 + r / 64).toNat.toUInt8.toNat = 192 + r.toNat / 64 := by rw [Nat.toUInt8, UInt8.toNat_ofNat']; omega
     have e1 : (128 + r % 64).toNat.toUInt8.toNat = 128 + r.toNat % 64 := by rw [Nat.toUInt8, UInt8.toNat_ofNat']; omega
     rw [e0, e1]
     unfold decodeN
     rw [if_neg (by omega), if_pos (by omega), if_pos (by omega)]
     congr 1
     omega
   rw [e, enc_two h2.1 h2.2]
   refine ⟨?_, rfl, by simp [ok]⟩
   unfold fix; rw [if_pos (by omega)]; simp only; omega
 by_cases h3 : (2048 ≤ r ∧ r < 55296) ∨ (57343 < r ∧ r ≤ 65535)
 · have e : dec (enc r ++ t) = (r.toNat, 3) := by
     rw [enc_three h3, List.cons_append, List.cons_append, List.cons_append, List.nil_append, dec_three]
     have e0 : (224 + r / 4096).toNat.toUInt8.toNat = 224 + r.toNat / 4096 := by rw [Nat.toUInt8, UInt8.toNat_ofNat']; omega
     have e1 : (128 + r / 64 % 64).toNat.toUInt8.toNat = 128 + r.toNat / 64 % 64 := by rw [Nat.toUInt8, UInt8.toNat_ofNat']; omega
     have e2 : (128 + r % 64).toNat.toUInt8.toNat = 128 + r.toNat % 64 := by rw [Nat.toUInt8, UInt8.toNat_ofNat']; omega
     rw [e0, e1, e2]
     unfold decodeN
     rw [if_neg (by omega), if_neg (by omega), if_pos (by omega), if_pos (by omega)]
     congr 1
     omega
   rw [e, enc_three h3]
   refine ⟨?_, rfl, by simp [ok]⟩
   unfold fix; rw [if_pos (by omega)]; simp only; omega
 by_cases h4 : 65536 ≤ r ∧ r ≤ 1114111
 · have e : dec (enc r ++ t) = (r.toNat, 4) := by
     rw [enc_four h4.1 h4.2, List.cons_append, List.cons_append, List.cons_append, List.cons_append, List.nil_append, dec_four]
     have e0 : (240 + r / 262144).toNat.toUInt8.toNat = 240 + r.toNat / 262144 := by rw [Nat.toUInt8, UInt8.toNat_ofNat']; omega
     have e1 : (128 + r / 4096 % 64).toNat.toUInt8.toNat = 128 + r.toNat / 4096 % 64 := by rw [Nat.toUInt8, UInt8.toNat_ofNat']; omega
     have e2 : (128 + r / 64 % 64).toNat.toUInt8.toNat = 128 + r.toNat / 64 % 64 := by rw [Nat.toUInt8, UInt8.toNat_ofNat']; omega
     have e3 : (128 + r % 64).toNat.toUInt8.toNat = 128 + r.toNat % 64 := by rw [Nat.toUInt8, UInt8.toNat_ofNat']; omega
     rw [e0, e1, e2, e3]
     unfold decodeN
     rw [if_neg (by omega), if_neg (by omega), if_neg (by omega), if_pos (by omega), if_pos (by omega)]
     congr 1
     omega
   rw [e, enc_four h4.1 h4.2]
   refine ⟨?_, rfl, by simp [ok]⟩
   unfold fix; rw [if_pos (by omega)]; simp only; omega
 · have hb : r < 0 ∨ (55296 ≤ r ∧ r ≤ 57343) ∨ 1114111 < r := by omega
   have e : dec (enc r ++ t) = (65533, 3) := by
     rw [enc_bad hb, List.cons_append, List.cons_append, List.cons_append, List.nil_append, dec_three]
     unfold decodeN
     rw [show (239 : UInt8).toNat = 239 from rfl, show (191 : UInt8).toNat = 191 from rfl, show (189 : UInt8).toNat = 189 from rfl]
     rw [if_neg (by omega), if_neg (by omega), if_pos (by omega), if_pos (by omega)]
   rw [e, enc_bad hb]
   refine ⟨?_, rfl, by simp [ok]⟩
   unfold fix; rw [if_neg (by omega)]; rfl
theorem u8_eq {a : UInt8} {n : Int} (h : n = a.toNat) : n.toNat.toUInt8 = a := by
 apply UInt8.toNat_inj.1
 rw [Nat.toUInt8, UInt8.toNat_ofNat']
 have := UInt8.toNat_lt a
 omega
theorem enc_dec (bs : List UInt8) (hb : bs ≠ []) (h : ok (dec bs) = true) : enc ((dec bs).1 : Int) = bs.take (dec bs).2 := by
 have key : ∀ (n b0 b1 b2 b3 : Nat), ok (decodeN n b0 b1 b2 b3) = true →
     (b0 < 128 ∧ decodeN n b0 b1 b2 b3 = (b0, 1)) ∨
     (b0 / 32 = 6 ∧ 1 < n ∧ b1 / 64 = 2 ∧ b0 % 32 * 64 + b1 % 64 ≥ 128 ∧ decodeN n b0 b1 b2 b3 = (b0 % 32 * 64 + b1 % 64, 2)) ∨
     (b0 / 16 = 14 ∧ 2 < n ∧ b1 / 64 = 2 ∧ b2 / 64 = 2 ∧ b0 % 16 * 4096 + b1 % 64 * 64 + b2 % 64 ≥ 2048 ∧ (b0 % 16 * 4096 + b1 % 64 * 64 + b2 % 64 < 55296 ∨ 57344 ≤ b0 % 16 * 4096 + b1 % 64 * 64 + b2 % 64) ∧ decodeN n b0 b1 b2 b3 = (b0 % 16 * 4096 + b1 % 64 * 64 + b2 % 64, 3)) ∨
     (b0 / 8 = 30 ∧ 3 < n ∧ b1 / 64 = 2 ∧ b2 / 64 = 2 ∧ b3 / 64 = 2 ∧ b0 % 8 * 262144 + b1 % 64 * 4096 + b2 % 64 * 64 + b3 % 64 ≥ 65536 ∧ b0 % 8 * 262144 + b1 % 64 * 4096 + b2 % 64 * 64 + b3 % 64 ≤ 1114111 ∧ decodeN n b0 b1 b2 b3 = (b0 % 8 * 262144 + b1 % 64 * 4096 + b2 % 64 * 64 + b3 % 64, 4)) := by
   intro n b0 b1 b2 b3 hok
   unfold decodeN at hok ⊢
   split
   · exact .inl ⟨by assumption, rfl⟩
   · rename_i c0
     rw [if_neg c0] at hok
     split
     · rename_i c1
       rw [if_pos c1] at hok
       split
       · exact .inr (.inl ⟨c1.1, c1.2.1, c1.2.2, by assumption, rfl⟩)
       · rename_i c2
         rw [if_neg c2] at hok
         simp [ok] at hok
     · rename_i c1
       rw [if_neg c1] at hok
       split
       · rename_i c2
         rw [if_pos c2] at hok
         split
         · rename_i c3
           exact .inr (.inr (.inl ⟨c2.1, c2.2.2.1, c2.2.1.2, c2.2.2.2, c3.1, by omega, rfl⟩))
         · rename_i c3
           rw [if_neg c3] at hok
           simp [ok] at hok
       · rename_i c2
         rw [if_neg c2] at hok
         split
         · rename_i c3
           rw [if_pos c3] at hok
           split
           · rename_i c4
             exact .inr (.inr (.inr ⟨c3.1, c3.2.2.2.1, c3.2.1.2, c3.2.2.1.2, c3.2.2.2.2, c4.1, by omega, rfl⟩))
           · rename_i c4
             rw [if_neg c4] at hok
             simp [ok] at hok
         · rename_i c3
           rw [if_neg c3] at hok
           simp [ok] at hok
 unfold dec at h ⊢
 match bs, hb with
 | a :: t, _ =>
   have ha := UInt8.toNat_lt a
   rcases key _ _ _ _ _ h with ⟨c, e⟩ | ⟨c0, cn, c1, cp, e⟩ | ⟨c0, cn, c1, c2, cp, cq, e⟩ | ⟨c0, cn, c1, c2, c3, cp, cq, e⟩
   · rw [e]
     simp only [List.getD_cons_zero] at c ⊢
     rw [enc_one (by omega) (by omega), u8_eq rfl]
     rfl
   · obtain _ | ⟨b, t⟩ := t
     · simp at cn
     have hb := UInt8.toNat_lt b
     rw [e]
     simp only [List.getD_cons_zero, List.getD_cons_succ] at c0 c1 cp ⊢
     rw [enc_two (by omega) (by omega), u8_eq (a := a) (by omega), u8_eq (a := b) (by omega)]
     rfl
   · obtain _ | ⟨b, _ | ⟨c, t⟩⟩ := t
     · simp at cn
     · simp at cn
     have hb := UInt8.toNat_lt b
     have hc := UInt8.toNat_lt c
     rw [e]
     simp only [List.getD_cons_zero, List.getD_cons_succ] at c0 c1 c2 cp cq ⊢
     rw [enc_three (by omega), u8_eq (a := a) (by omega), u8_eq (a := b) (by omega), u8_eq (a := c) (by omega)]
     rfl
   · obtain _ | ⟨b, _ | ⟨c, _ | ⟨d, t⟩⟩⟩ := t
     · simp at cn
     · simp at cn
     · simp at cn
     have hb := UInt8.toNat_lt b
     have hc := UInt8.toNat_lt c
     have hd := UInt8.toNat_lt d
     rw [e]
     simp only [List.getD_cons_zero, List.getD_cons_succ] at c0 c1 c2 c3 cp cq ⊢
     rw [enc_four (by omega) (by omega), u8_eq (a := a) (by omega), u8_eq (a := b) (by omega), u8_eq (a := c) (by omega), u8_eq (a := d) (by omega)]
     rfl
end M
end Go.Proofs.YtgngaldoemopjaaGreatDoor
namespace Go.Proofs.YtgngaldoemopjaaGreatDoor
namespace X
open M
def isL (c : UInt8) : Bool := (decide (97 ≤ c.toNat) && decide (c.toNat ≤ 122)) || (decide (65 ≤ c.toNat) && decide (c.toNat ≤ 90))
def isD (c : UInt8) : Bool := decide (48 ≤ c.toNat) && decide (c.toNat ≤ 57)
def isLD (c : UInt8) : Bool := isL c || isD c
def isI (c : UInt8) : Bool := isL c || isD c || c == 45 || c == 95
def hexv (c : UInt8) : Option Nat :=
 if isD c then some (c.toNat - 48) else if 97 ≤ c.toNat ∧ c.toNat ≤ 102 then some (c.toNat - 87) else if 65 ≤ c.toNat ∧ c.toNat ≤ 70 then some (c.toNat - 55) else none
def isH (c : UInt8) : Bool := (hexv c).isSome
def hexN (l : List UInt8) : Nat := l.foldl (fun n c => n * 16 + (hexv c).getD 0) 0
def blank (c : UInt8) : Bool := c == 32 || c == 9 || c == 13
def signs : List UInt8 := [91, 93, 40, 41, 124, 42, 43, 63, 46, 94, 45, 58, 61]
structure Tk where
 kind : Nat
 text : List UInt8
 r : Int
deriving DecidableEq
def wordB : List UInt8 → Option (List UInt8 × Nat)
 | [] => none
 | c :: u =>
   if c = 34 then some ([], 1)
   else if c = 10 then none
   else if c = 92 then
     match u with
     | [] => none
     | x :: v => if x = 34 ∨ x = 92 then (wordB v).map fun p => (x :: p.1, p.2 + 2) else none
   else (wordB u).map fun p => (c :: p.1, p.2 + 1)
def word (u : List UInt8) : Option (Tk × Nat) :=
 match wordB u with
 | none => none
 | some p => if good p.1 then some (⟨2, p.1, 0⟩, p.2 + 1) else none
def charN (v : List UInt8) : Option (Tk × Nat) :=
 match v with
 | x :: y :: h =>
   if x = 117 ∧ y = 123 ∧ 1 ≤ (h.takeWhile isH).length ∧ (h.takeWhile isH).length ≤ 6 ∧ hexN (h.takeWhile isH) ≤ 1114111 ∧ (h.drop (h.takeWhile isH).length).head? = some 125
   then some (⟨4, [], (hexN (h.takeWhile isH) : Int)⟩, (h.takeWhile isH).length + 5) else none
 | _ => none
def charL (u : List UInt8) : Option (Tk × Nat) :=
 match u with
 | [] => none
 | c :: v => if c = 92 then charN v else if ok (dec (c :: v)) = true ∧ (dec (c :: v)).1 ≠ 10 then some (⟨4, [], ((dec (c :: v)).1 : Int)⟩, (dec (c :: v)).2 + 1) else none
def nextL (s : List UInt8) : Option (Tk × Nat) :=
 match s with
 | [] => none
 | c :: u =>
   if c = 10 then some (⟨7, [], 0⟩, 1)
   else if c = 36 then (if (u.head?.map isL) = some true ∧ (u.takeWhile isLD).length ≤ 20 then some (⟨1, u.takeWhile isLD, 0⟩, 1 + (u.takeWhile isLD).length) else none)
   else if isD c = true then (if ((c :: u).takeWhile isD).length ≤ 4 ∧ ¬ (1 < ((c :: u).takeWhile isD).length ∧ c = 48) then some (⟨3, (c :: u).takeWhile isD, 0⟩, ((c :: u).takeWhile isD).length) else none)
   else if isL c = true then some (⟨8, (c :: u).takeWhile isI, 0⟩, ((c :: u).takeWhile isI).length)
   else if c = 34 then word u
   else if c = 39 then charL u
   else if c = 123 then (if 1 ≤ (u.takeWhile isL).length ∧ (u.drop (u.takeWhile isL).length).head? = some 125 then some (⟨5, u.takeWhile isL, 0⟩, (u.takeWhile isL).length + 2) else none)
   else if (c = 62 ∧ u.head? = some 60) ∨ (c = 60 ∧ u.head? = some 62) then some (⟨6, (c :: u).take 2, 0⟩, 2)
   else if c ∈ signs then some (⟨6, [c], 0⟩, 1) else none
theorem wordB_size : ∀ (u : List UInt8) (p : List UInt8 × Nat), wordB u = some p → 1 ≤ p.2 ∧ p.2 ≤ u.length ∧ p.1.length + 1 ≤ p.2
 | [], p, h => by simp [wordB] at h
 | c :: u, p, h => by
   unfold wordB at h
   split at h
   · cases h; simp
   · split at h
     · cases h
     · split at h
       · split at h
         · cases h
         · rename_i x v
           split at h
           · cases hw : wordB v with
             | none => rw [hw] at h; cases h
             | some q =>
               rw [hw] at h
               cases h
               have := wordB_size v q hw
               simp
               omega
           · cases h
       · cases hw : wordB u with
         | none => rw [hw] at h; cases h
         | some q =>
           rw [hw] at h
           cases h
           have := wordB_size u q hw
           simp
           omega
theorem takeWhile_le {α : Type} (p : α → Bool) (l : List α) : (l.takeWhile p).length ≤ l.length := (List.takeWhile_sublist p).length_le
theorem next_size {s : List UInt8} {t : Tk} {n : Nat} (h : nextL s = some (t, n)) : 1 ≤ n ∧ n ≤ s.length := by
 cases s with
 | nil => simp [nextL] at h
 | cons c u =>
   unfold nextL at h
   simp only at h
   split at h
   · cases h; simp
   · split at h
     · split at h
       · cases h
         have := takeWhile_le isLD u
         simp; omega
       · cases h
     · split at h
       · rename_i hd
         split at h
         · cases h
           have := takeWhile_le isD (c :: u)
           rw [List.takeWhile_cons_of_pos hd] at this ⊢
           simp at this ⊢; omega
         · cases h
       · split at h
         · rename_i hl
           cases h
           have := takeWhile_le isI (c :: u)
           rw [List.takeWhile_cons_of_pos (by simp [isI, hl])] at this ⊢
           simp at this ⊢; omega
         · split at h
           · unfold word at h
             cases hw : wordB u with
             | none => rw [hw] at h; cases h
             | some p =>
               rw [hw] at h
               have := wordB_size u p hw
               simp only at h
               split at h
               · cases h; simp; omega
               · cases h
           · split at h
             · unfold charL at h
               cases u with
               | nil => cases h
               | cons x v =>
                 simp only at h
                 split at h
                 · unfold charN at h
                   split at h
                   · rename_i a b hh
                     split at h
                     · rename_i hc
                       cases h
                       have h1 := takeWhile_le isH hh
                       have h2 : (hh.takeWhile isH).length < hh.length := by
                         rcases Nat.lt_or_ge (hh.takeWhile isH).length hh.length with h3 | h3
                         · exact h3
                         · have := hc.2.2.2.2.2
                           rw [List.drop_eq_nil_of_le h3] at this
                           simp at this
                       simp; omega
                     · cases h
                   · cases h
                 · split at h
                   · cases h
                     have := dec_size (bs := x :: v) (by simp)
                     simp at this ⊢; omega
                   · cases h
             · split at h
               · split at h
                 · rename_i hc
                   cases h
                   have h1 := takeWhile_le isL u
                   have h2 : (u.takeWhile isL).length < u.length := by
                     rcases Nat.lt_or_ge (u.takeWhile isL).length u.length with h3 | h3
                     · exact h3
                     · have := hc.2
                       rw [List.drop_eq_nil_of_le h3] at this
                       simp at this
                   simp; omega
                 · cases h
               · split at h
                 · rename_i hc
                   cases h
                   cases u with
                   | nil => simp at hc
                   | cons x v => simp
                 · split at h
                   · cases h; simp
                   · cases h
def scanF : Nat → Nat → List UInt8 → Except Nat (List (Tk × Nat))
 | _, at_, [] => .ok [(⟨0, [], 0⟩, at_)]
 | 0, at_, _ => .error at_
 | f + 1, at_, c :: u =>
   if blank c = true then scanF f (at_ + 1) u
   else if c = 35 then scanF f (at_ + ((c :: u).takeWhile (· ≠ 10)).length) ((c :: u).drop ((c :: u).takeWhile (· ≠ 10)).length)
   else match nextL (c :: u) with
     | none => .error at_
     | some p => (scanF f (at_ + p.2) ((c :: u).drop p.2)).map fun l => (p.1, at_) :: l
theorem com_pos (u : List UInt8) : 1 ≤ ((35 :: u).takeWhile (· ≠ 10)).length := by rw [List.takeWhile_cons_of_pos (by decide)]; simp
theorem scanF_fuel : ∀ (f g at_ : Nat) (s : List UInt8), s.length ≤ f → s.length ≤ g → scanF f at_ s = scanF g at_ s
 | f, g, at_, [], _, _ => by cases f <;> cases g <;> rfl
 | 0, _, _, _ :: _, h, _ => by simp at h
 | _, 0, _, _ :: _, _, h => by simp at h
 | f + 1, g + 1, at_, c :: u, hf, hg => by
   have hf' : u.length ≤ f := by simpa using hf
   have hg' : u.length ≤ g := by simpa using hg
   unfold scanF
   by_cases hb : blank c = true
   · rw [if_pos hb, if_pos hb]
     exact scanF_fuel f g _ u hf' hg'
   · rw [if_neg hb, if_neg hb]
     by_cases hc : c = 35
     · rw [if_pos hc, if_pos hc]
       subst hc
       have := com_pos u
       exact scanF_fuel f g _ _ (by rw [List.length_drop]; simp; omega) (by rw [List.length_drop]; simp; omega)
     · rw [if_neg hc, if_neg hc]
       cases hn : nextL (c :: u) with
       | none => rfl
       | some p =>
         have := next_size hn
         simp only
         rw [scanF_fuel f g _ _ (by rw [List.length_drop]; simp; omega) (by rw [List.length_drop]; simp; omega)]
def scan (at_ : Nat) (s : List UInt8) : Except Nat (List (Tk × Nat)) := scanF s.length at_ s
theorem scan_nil (at_ : Nat) : scan at_ [] = .ok [(⟨0, [], 0⟩, at_)] := rfl
theorem scan_blank (at_ : Nat) {c : UInt8} (u : List UInt8) (h : blank c = true) : scan at_ (c :: u) = scan (at_ + 1) u := by
 unfold scan
 rw [List.length_cons, scanF, if_pos h]
theorem scan_com (at_ : Nat) (u : List UInt8) : scan at_ (35 :: u) = scan (at_ + ((35 :: u).takeWhile (· ≠ 10)).length) ((35 :: u).drop ((35 :: u).takeWhile (· ≠ 10)).length) := by
 have := com_pos u
 unfold scan
 rw [List.length_cons, scanF, if_neg (by decide), if_pos rfl]
 exact scanF_fuel _ _ _ _ (by rw [List.length_drop]; simp only [List.length_cons] at *; omega) (Nat.le_refl _)
theorem scan_none (at_ : Nat) {c : UInt8} (u : List UInt8) (hb : blank c = false) (hc : c ≠ 35) (h : nextL (c :: u) = none) : scan at_ (c :: u) = .error at_ := by
 unfold scan
 rw [List.length_cons, scanF, if_neg (by rw [hb]; decide), if_neg hc, h]
theorem scan_some (at_ : Nat) {c : UInt8} (u : List UInt8) (hb : blank c = false) (hc : c ≠ 35) {t : Tk} {n : Nat} (h : nextL (c :: u) = some (t, n)) : scan at_ (c :: u) = (scan (at_ + n) ((c :: u).drop n)).map fun l => (t, at_) :: l := by
 have := next_size h
 unfold scan
 rw [List.length_cons, scanF, if_neg (by rw [hb]; decide), if_neg hc, h]
 simp only
 rw [scanF_fuel _ _ _ _ (by rw [List.length_drop]; simp; omega) (Nat.le_refl _)]
theorem scan_ind {p : Nat → List UInt8 → Prop} (h0 : ∀ at_, p at_ []) (hb : ∀ at_ c u, blank c = true → p (at_ + 1) u → p at_ (c :: u))
   (hc : ∀ at_ u, p (at_ + ((35 :: u).takeWhile (· ≠ 10)).length) ((35 :: u).drop ((35 :: u).takeWhile (· ≠ 10)).length) → p at_ (35 :: u))
   (hn : ∀ at_ c u, blank c = false → c ≠ 35 → nextL (c :: u) = none → p at_ (c :: u))
   (hs : ∀ at_ c u t n, blank c = false → c ≠ 35 → nextL (c :: u) = some (t, n) → p (at_ + n) ((c :: u).drop n) → p at_ (c :: u)) : ∀ (at_ : Nat) (s : List UInt8), p at_ s
 | at_, [] => h0 at_
 | at_, c :: u => by
   cases hbl : blank c with
   | true => exact hb _ _ _ hbl (scan_ind h0 hb hc hn hs _ u)
   | false =>
     by_cases h35 : c = 35
     · subst h35
       have := com_pos u
       have hlt : ((35 :: u).drop ((35 :: u).takeWhile (· ≠ 10)).length).length < (35 :: u).length := by rw [List.length_drop]; simp; omega
       exact hc _ _ (scan_ind h0 hb hc hn hs _ _)
     · cases hx : nextL (c :: u) with
       | none => exact hn _ _ _ hbl h35 hx
       | some p =>
         obtain ⟨t, n⟩ := p
         have := next_size hx
         have hlt : ((c :: u).drop n).length < (c :: u).length := by rw [List.length_drop]; simp; omega
         exact hs _ _ _ t n hbl h35 hx (scan_ind h0 hb hc hn hs _ _)
termination_by _ s => s.length
end X
end Go.Proofs.YtgngaldoemopjaaGreatDoor
namespace Go.Proofs.YtgngaldoemopjaaGreatDoor
namespace X
open M
theorem tw_stop {p : UInt8 → Bool} {v : List UInt8} (hv : v = [] ∨ ∃ h w, v = h :: w ∧ p h = false) (u : List UInt8) : (u ++ v).takeWhile p = u.takeWhile p := by
 induction u with
 | nil =>
   rcases hv with rfl | ⟨h, w, rfl, hp⟩
   · rfl
   · rw [List.nil_append, List.takeWhile_cons_of_neg (by rw [hp]; decide)]; rfl
 | cons c u ih =>
   by_cases hc : p c = true
   · rw [List.cons_append, List.takeWhile_cons_of_pos hc, List.takeWhile_cons_of_pos hc, ih]
   · rw [List.cons_append, List.takeWhile_cons_of_neg hc, List.takeWhile_cons_of_neg hc]
theorem dec_ext {u : List UInt8} (hu : u ≠ []) (h : ok (dec u) = true) (v : List UInt8) : dec (u ++ v) = dec u := by
 have h1 := enc_dec u hu h
 have h2 := dec_size hu
 have h3 := dec_point u
 have e : u ++ v = enc ((dec u).1 : Int) ++ (u.drop (dec u).2 ++ v) := by rw [h1, ← List.append_assoc, List.take_append_drop]
 have h4 := dec_enc ((dec u).1 : Int) (u.drop (dec u).2 ++ v)
 rw [← e] at h4
 have hf : fix ((dec u).1 : Int) = ((dec u).1 : Int) := by unfold fix; rw [if_pos (by omega)]
 rw [hf, h1, List.length_take] at h4
 refine Prod.ext ?_ ?_
 · have := h4.1; omega
 · have := h4.2.1; omega
end X
end Go.Proofs.YtgngaldoemopjaaGreatDoor
namespace Go.Proofs.YtgngaldoemopjaaGreatDoor
namespace X
open M
theorem hexN_snoc (l : List UInt8) (c : UInt8) : hexN (l ++ [c]) = hexN l * 16 + (hexv c).getD 0 := by
 unfold hexN
 rw [List.foldl_append]
 rfl
theorem tw_id {p : UInt8 → Bool} {d : List UInt8} (h : ∀ c ∈ d, p c = true) (v : List UInt8) (hv : v = [] ∨ ∃ x w, v = x :: w ∧ p x = false) : (d ++ v).takeWhile p = d := by
 rw [tw_stop hv]
 induction d with
 | nil => rfl
 | cons c d ih => rw [List.takeWhile_cons_of_pos (h c (by simp)), ih fun x hx => h x (by simp [hx])]
theorem wordB_end (v : List UInt8) : wordB (34 :: v) = some ([], 1) := by
 unfold wordB
 rw [if_pos rfl]
theorem wordB_esc {x : UInt8} (v : List UInt8) (h : x = 34 ∨ x = 92) : wordB (92 :: x :: v) = (wordB v).map fun p => (x :: p.1, p.2 + 2) := by
 conv => lhs; unfold wordB
 rw [if_neg (by decide), if_neg (by decide), if_pos rfl]
 simp only
 rw [if_pos h]
theorem wordB_other {c : UInt8} (u : List UInt8) (h1 : c ≠ 34) (h2 : c ≠ 10) (h3 : c ≠ 92) : wordB (c :: u) = (wordB u).map fun p => (c :: p.1, p.2 + 1) := by
 conv => lhs; unfold wordB
 rw [if_neg h1, if_neg h2, if_neg h3]
theorem wordB_feed (u : List UInt8) : wordB (10 :: u) = none := by
 unfold wordB
 rw [if_neg (by decide), if_pos rfl]
end X
end Go.Proofs.YtgngaldoemopjaaGreatDoor
namespace Go.Proofs.YtgngaldoemopjaaGreatDoor
namespace M
open Go.Lib
theorem decodeN_min (n b0 b1 b2 b3 : Nat) : decodeN (min 4 n) b0 b1 b2 b3 = decodeN n b0 b1 b2 b3 := by
 have c1 : (1 < min 4 n) = (1 < n) := propext ⟨fun h => by omega, fun h => by omega⟩
 have c2 : (2 < min 4 n) = (2 < n) := propext ⟨fun h => by omega, fun h => by omega⟩
 have c3 : (3 < min 4 n) = (3 < n) := propext ⟨fun h => by omega, fun h => by omega⟩
 simp only [decodeN, c1, c2, c3]
theorem getD_take (u : List UInt8) (k j : Nat) (h : j < k) : (u.take k).getD j 0 = u.getD j 0 := by
 rw [List.getD_eq_getElem?_getD, List.getD_eq_getElem?_getD, List.getElem?_take_of_lt h]
theorem dec_take (u : List UInt8) : dec (u.take 4) = dec u := by
 unfold dec
 rw [List.length_take, decodeN_min, getD_take _ _ _ (by decide), getD_take _ _ _ (by decide), getD_take _ _ _ (by decide), getD_take _ _ _ (by decide)]
theorem good_head {u : List UInt8} (h : u ≠ []) : good (u.take (dec u).2) = ok (dec u) := by
 have hs := dec_size h
 cases hk : ok (dec u) with
 | true =>
   have h1 := enc_dec u h hk
   have h3 := dec_point u
   have h4 := dec_enc ((dec u).1 : Int) []
   have hf : fix ((dec u).1 : Int) = ((dec u).1 : Int) := by unfold fix; rw [if_pos (by omega)]
   rw [List.append_nil, hf, h1, List.length_take] at h4
   have e : dec (u.take (dec u).2) = dec u := Prod.ext (by have := h4.1; omega) (by have := h4.2.1; omega)
   have hn : u.take (dec u).2 ≠ [] := by
     intro e0
     have := congrArg List.length e0
     rw [List.length_take, List.length_nil] at this
     omega
   rw [good_step hn, e, hk, List.drop_eq_nil_of_le (by rw [List.length_take]; omega), good_nil]
   rfl
 | false =>
   have h2 : (dec u).1 = 65533 ∧ (dec u).2 = 1 := by
     unfold ok at hk
     simp only [Bool.or_eq_false_iff, Bool.not_eq_false', beq_iff_eq, decide_eq_false_iff_not] at hk
     omega
   cases u with
   | nil => exact absurd rfl h
   | cons c v =>
     rw [h2.2]
     have hc : 128 ≤ c.toNat := by
       rcases Nat.lt_or_ge c.toNat 128 with h5 | h5
       · have : (dec (c :: v)).1 = c.toNat := by unfold dec decodeN; simp [h5]
         have := h2.1
         omega
       · exact h5
     have hd : dec [c] = (65533, 1) := by
       unfold dec decodeN
       simp
       omega
     show good [c] = false
     rw [good_step (by simp), hd]
     rfl
end M
namespace X
open M
theorem name_cond (u : List UInt8) : ((u.head?.map isL) = some true ∧ (u.takeWhile isLD).length ≤ 20) ↔ ((u.takeWhile isLD).length ≠ 0 ∧ (u.takeWhile isLD).length ≤ 20 ∧ (u.head?.map isD) ≠ some true) := by
 cases u with
 | nil => simp
 | cons c v =>
   have hx : isL c = true → isD c = false := by
     unfold isL isD
     simp only [Bool.or_eq_true, Bool.and_eq_true, decide_eq_true_eq, Bool.and_eq_false_iff, decide_eq_false_iff_not]
     omega
   cases hl : isL c with
   | true =>
     rw [List.takeWhile_cons_of_pos (by simp [isLD, hl])]
     simp [hl, hx hl]
   | false =>
     cases hd : isD c with
     | true => simp [hl, hd]
     | false =>
       rw [List.takeWhile_cons_of_neg (by simp [isLD, hl, hd])]
       simp [hl]
end X
end Go.Proofs.YtgngaldoemopjaaGreatDoor
namespace Go.Proofs.YtgngaldoemopjaaGreatDoor
open Go.RowKit
theorem hide {p : Prop} (h : p) : Hid p := h
theorem nx {w w1 w2 : World} (h : Below w.heap.size w w1) (h1 : Below w1.heap.size w1 w2) : Below w.heap.size w w2 := h.trans (h1.mono h.size)
theorem al1 (w : World) (o : Obj) : Below w.heap.size w (w.alloc o) := (Below.refl _ w).alloc (Nat.le_refl _) _
abbrev U8 (c : UInt8) : Value := .int .u8 (c.toNat : Int)
theorem u8_eq (c k : UInt8) : ((c.toNat : Int) == (k.toNat : Int)) = decide (c = k) := by
 by_cases e : c = k
 · subst e; simp
 · rw [decide_eq_false e, beq_eq_false_iff_ne]
   exact fun h => e (UInt8.toNat_inj.1 (by omega))
set_option maxHeartbeats 1000000 in
theorem letter_any (c : UInt8) (w : World) : Calls Tryz.prog 141 #[U8 c] w fun e w' => e = .returned (.bool (X.isL c)) ∧ w' = w := by
 have hc := c.toNat_lt
 generalize hr : X.isL c = r
 unfold U8
 go_enter Tryz.func141, Tryz.ntmps141
 go_wp2
 all_goals
   go_ret
   refine ⟨?_, rfl⟩
   subst hr
   simp [X.isL, *]
   first | omega | (rw [Bool.eq_iff_iff]; simp; omega)
theorem digit_any (c : UInt8) (w : World) : Calls Tryz.prog 139 #[U8 c] w fun e w' => e = .returned (.bool (X.isD c)) ∧ w' = w := by
 have hc := c.toNat_lt
 generalize hr : X.isD c = r
 unfold U8
 go_enter Tryz.func139, Tryz.ntmps139
 go_wp2
 all_goals
   go_ret
   refine ⟨?_, rfl⟩
   subst hr
   simp [X.isD, *]
   first | omega | (rw [Bool.eq_iff_iff]; simp; omega)
set_option maxHeartbeats 1000000 in
theorem alnum_any (c : UInt8) (w : World) : Calls Tryz.prog 167 #[U8 c] w fun e w' => e = .returned (.bool (X.isLD c)) ∧ w' = w := by
 have hl := letter_any c w
 have hd := digit_any c w
 unfold X.isLD
 generalize X.isL c = a at *
 generalize X.isD c = b at *
 unfold U8 at *
 cases a with
 | true =>
   clear hd
   go_enter Tryz.func167, Tryz.ntmps167
   go_wp2_with fail
   refine hl.mono ?_
   rintro e w1 ⟨rfl, rfl⟩
   go_wp2
   go_ret
   exact ⟨by simp, rfl⟩
 | false =>
   go_enter Tryz.func167, Tryz.ntmps167
   go_wp2_with fail
   refine hl.mono ?_
   rintro e w1 ⟨rfl, rfl⟩
   go_wp2_with fail
   refine hd.mono ?_
   rintro e w1 ⟨rfl, rfl⟩
   go_wp2
   go_ret
   exact ⟨by simp, rfl⟩
set_option maxHeartbeats 1000000 in
theorem ident_any (c : UInt8) (w : World) : Calls Tryz.prog 169 #[U8 c] w fun e w' => e = .returned (.bool (X.isI c)) ∧ w' = w := by
 have hl := alnum_any c w
 have e45 : ((c.toNat : Int) == 45) = decide (c = 45) := u8_eq c 45
 have e95 : ((c.toNat : Int) == 95) = decide (c = 95) := u8_eq c 95
 have hI : X.isI c = (X.isLD c || decide (c = 45) || decide (c = 95)) := by
   unfold X.isI X.isLD
   have b1 : (c == 45) = decide (c = 45) := by rw [Bool.eq_iff_iff]; simp
   have b2 : (c == 95) = decide (c = 95) := by rw [Bool.eq_iff_iff]; simp
   rw [b1, b2]
 rw [hI]
 clear hI
 generalize X.isLD c = a at *
 generalize decide (c = 45) = b at *
 generalize decide (c = 95) = d at *
 unfold U8 at *
 cases a with
 | true =>
   go_enter Tryz.func169, Tryz.ntmps169
   go_wp2_with fail
   refine hl.mono ?_
   rintro e w1 ⟨rfl, rfl⟩
   go_wp2
   go_ret
   exact ⟨by simp, rfl⟩
 | false =>
   cases b with
   | true =>
     go_enter Tryz.func169, Tryz.ntmps169
     go_wp2_with fail
     refine hl.mono ?_
     rintro e w1 ⟨rfl, rfl⟩
     go_wp2
     go_ret
     exact ⟨by simp, rfl⟩
   | false =>
     cases d with
     | true =>
       go_enter Tryz.func169, Tryz.ntmps169
       go_wp2_with fail
       refine hl.mono ?_
       rintro e w1 ⟨rfl, rfl⟩
       go_wp2
       go_ret
       exact ⟨by simp, rfl⟩
     | false =>
       go_enter Tryz.func169, Tryz.ntmps169
       go_wp2_with fail
       refine hl.mono ?_
       rintro e w1 ⟨rfl, rfl⟩
       go_wp2
       go_ret
       exact ⟨by simp, rfl⟩
set_option maxHeartbeats 1000000 in
theorem hex_any (c : UInt8) (w : World) : Calls Tryz.prog 186 #[U8 c] w fun e w' => e = .returned (.bool (X.isH c)) ∧ w' = w := by
 have hl := digit_any c w
 have hc := c.toNat_lt
 have hH : X.isH c = (X.isD c || (decide (97 ≤ c.toNat ∧ c.toNat ≤ 102) || decide (65 ≤ c.toNat ∧ c.toNat ≤ 70))) := by
   unfold X.isH X.hexv
   cases X.isD c with
   | true => simp
   | false =>
     simp only [Bool.false_or, Bool.false_eq_true, if_false]
     by_cases h1 : 97 ≤ c.toNat ∧ c.toNat ≤ 102
     · rw [if_pos h1, decide_eq_true h1]; rfl
     · rw [if_neg h1, decide_eq_false h1]
       by_cases h2 : 65 ≤ c.toNat ∧ c.toNat ≤ 70
       · rw [if_pos h2, decide_eq_true h2]; rfl
       · rw [if_neg h2, decide_eq_false h2]; rfl
 rw [hH]
 clear hH
 generalize X.isD c = a at *
 unfold U8 at *
 cases a with
 | true =>
   go_enter Tryz.func186, Tryz.ntmps186
   go_wp2_with fail
   refine hl.mono ?_
   rintro e w1 ⟨rfl, rfl⟩
   go_wp2
   go_ret
   exact ⟨by simp, rfl⟩
 | false =>
   generalize hr : (false || (decide (97 ≤ c.toNat ∧ c.toNat ≤ 102) || decide (65 ≤ c.toNat ∧ c.toNat ≤ 70))) = r
   have HR := hide hr
   clear hr
   go_enter Tryz.func186, Tryz.ntmps186
   go_wp2_with fail
   refine hl.mono ?_
   rintro e w1 ⟨rfl, rfl⟩
   go_wp2
   all_goals
     go_ret
     refine ⟨?_, rfl⟩
     obtain rfl := HR.out
     simp [*]
     try first | omega | (rw [Bool.eq_iff_iff]; simp; omega)
def bts (s : ByteArray) : List UInt8 := s.data.toList
theorem bts_len (s : ByteArray) : (bts s).length = s.size := rfl
theorem idx_at {s : ByteArray} {i : Nat} (hi : i < (bts s).length) (j : Int) (hj : j = (i : Int)) (h : j.toNat < s.size) : s[j.toNat]'h = (bts s)[i] := by
 subst hj
 simp [bts, ByteArray.getElem_eq_getElem_data]
theorem tw_len {p : UInt8 → Bool} {l : List UInt8} {n : Nat} (h : ∀ c ∈ l.take n, p c = true) (hn : n = l.length ∨ ∃ h : n < l.length, p l[n] = false) : (l.takeWhile p).length = n := by
 have e : l = l.take n ++ l.drop n := (List.take_append_drop n l).symm
 have hle : n ≤ l.length := by
   rcases hn with h1 | ⟨h1, _⟩ <;> omega
 rw [e, X.tw_id h (l.drop n) ?_, List.length_take]
 · omega
 · rcases hn with h1 | ⟨h1, h2⟩
   · exact .inl (by rw [h1, List.drop_length])
   · exact .inr ⟨l[n], l.drop (n + 1), List.drop_eq_getElem_cons h1, h2⟩
theorem take_snoc0 {l : List UInt8} {n : Nat} (h : n < l.length) : l.take (n + 1) = l.take n ++ [l[n]] := by
 rw [List.take_succ_eq_append_getElem h]
end Go.Proofs.YtgngaldoemopjaaGreatDoor
namespace Go.Proofs.YtgngaldoemopjaaGreatDoor
open Go.RowKit
def cB (bs : List UInt8) : List Value := bs.map fun c => Value.int .u8 (c.toNat : Int)
def cI (xs : List Int) : List Value := xs.map fun x => Value.int .i32 x
def cN (xs : List Int) : List Value := xs.map fun x => Value.int .i64 x
theorem cB_length (bs : List UInt8) : (cB bs).length = bs.length := by simp [cB]
theorem cI_length (bs : List Int) : (cI bs).length = bs.length := by simp [cI]
theorem cN_length (bs : List Int) : (cN bs).length = bs.length := by simp [cN]
theorem cB_append (xs ys : List UInt8) : cB (xs ++ ys) = cB xs ++ cB ys := by simp [cB]
theorem cI_append (xs ys : List Int) : cI (xs ++ ys) = cI xs ++ cI ys := by simp [cI]
theorem cN_append (xs ys : List Int) : cN (xs ++ ys) = cN xs ++ cN ys := by simp [cN]
def Rd (w : World) (ao : Option Addr) (vs : List Value) : Prop :=
 ∀ i (h : i < vs.length), ∃ b off, ao = some ⟨b, off, none⟩ ∧ w.cell? ⟨b, off + i, none⟩ = some vs[i]
theorem Rd.byte {w : World} {ao : Option Addr} {bs : List UInt8} (h : Rd w ao (cB bs)) (i : Nat) (hi : i < bs.length) : ∃ b off, ao = some ⟨b, off, none⟩ ∧ w.cell? ⟨b, off + i, none⟩ = some (.int .u8 (bs[i].toNat : Int)) := by
 obtain ⟨b, off, e, hc⟩ := h i (by rw [cB_length]; exact hi)
 exact ⟨b, off, e, by rw [hc]; simp [cB]⟩
theorem Rd.rune {w : World} {ao : Option Addr} {bs : List Int} (h : Rd w ao (cI bs)) (i : Nat) (hi : i < bs.length) : ∃ b off, ao = some ⟨b, off, none⟩ ∧ w.cell? ⟨b, off + i, none⟩ = some (.int .i32 bs[i]) := by
 obtain ⟨b, off, e, hc⟩ := h i (by rw [cI_length]; exact hi)
 exact ⟨b, off, e, by rw [hc]; simp [cI]⟩
theorem Rd.num {w : World} {ao : Option Addr} {bs : List Int} (h : Rd w ao (cN bs)) (i : Nat) (hi : i < bs.length) : ∃ b off, ao = some ⟨b, off, none⟩ ∧ w.cell? ⟨b, off + i, none⟩ = some (.int .i64 bs[i]) := by
 obtain ⟨b, off, e, hc⟩ := h i (by rw [cN_length]; exact hi)
 exact ⟨b, off, e, by rw [hc]; simp [cN]⟩
theorem adAdd (b off j : Nat) : (⟨b, off, none⟩ : Addr).add j = ⟨b, off + j, none⟩ := by
 unfold Addr.add
 split
 · simp_all
 · rfl
theorem Rd.later {w wx : World} {ao : Option Addr} {vs : List Value} (h : Rd w ao vs) (hb : Below w.heap.size w wx) : Rd wx ao vs := fun i hi =>
 let ⟨b, off, e, hc⟩ := h i hi
 ⟨b, off, e, cell_later hb hc⟩
theorem Rd.take {w : World} {ao : Option Addr} {vs : List Value} (h : Rd w ao vs) (k : Nat) : Rd w ao (vs.take k) := by
 intro i hi
 have hi' : i < vs.length := by rw [List.length_take] at hi; omega
 obtain ⟨b, off, e, hc⟩ := h i hi'
 exact ⟨b, off, e, by rw [List.getElem_take]; exact hc⟩
theorem Rd.drop {w : World} {ao : Option Addr} {vs : List Value} (h : Rd w ao vs) (k : Nat) : Rd w (ao.map (·.add k)) (vs.drop k) := by
 intro i hi
 rw [List.length_drop] at hi
 obtain ⟨b, off, rfl, hc⟩ := h (k + i) (by omega)
 exact ⟨b, off + k, by rw [Option.map_some, adAdd], by rw [List.getElem_drop, Nat.add_assoc]; exact hc⟩
theorem Rd.cell {w : World} {ao : Option Addr} {vs : List Value} (h : Rd w ao vs) (hp : 0 < vs.length) : ∃ ad, ao = some ad ∧ ∀ j v, vs[j]? = some v → w.cell? (ad.add j) = some v := by
 obtain ⟨b, off, rfl, _⟩ := h 0 hp
 refine ⟨_, rfl, fun j v hv => ?_⟩
 obtain ⟨hj, rfl⟩ := List.getElem?_eq_some_iff.1 hv
 obtain ⟨b', off', e, hc⟩ := h j hj
 simp only [Option.some.injEq, Addr.mk.injEq] at e
 obtain ⟨rfl, rfl, _⟩ := e
 rw [adAdd]
 exact hc
theorem rd_new (w : World) (vs : List Value) (t : TypeId) (cs : Array Value) (fz : Nat × Nat) (hcs : cs = vs.toArray) : Rd (w.alloc (.cells cs t fz)) (some ⟨w.heap.size, 0, none⟩) vs := by
 subst hcs
 intro i hi
 refine ⟨w.heap.size, 0, rfl, ?_⟩
 unfold World.cell?
 rw [heap_alloc_new]
 simp [hi]
def Own (w : World) (B : Nat) (e : TypeId) (v : Value) (vs : List Value) : Prop := w.ownsRow B e 1 v vs.length vs
theorem own_nil (w : World) (B : Nat) (e : TypeId) : Own w B e (.slice none 0 0) [] := World.ownsRow_nil w _ _ _
theorem Own.block {w : World} {B : Nat} {e : TypeId} {v : Value} {vs : List Value} (h : Own w B e v vs) : ∀ k, v.ownBlock = some k → B ≤ k := by
 intro g hg
 obtain ⟨_, ⟨rfl, _⟩ | ⟨g', cap', cur', rfl, hg', _⟩⟩ := h
 · simp [Value.ownBlock] at hg
 · simp [Value.ownBlock] at hg; omega
theorem Own.rd {w : World} {B : Nat} {e : TypeId} {v : Value} {vs : List Value} (h : Own w B e v vs) : ∃ ao cap, v = .slice ao vs.length cap ∧ vs.length ≤ cap ∧ (ao = none → cap = 0) ∧ Rd w ao vs := by
 obtain ⟨_, h | ⟨g, cap, cur, rfl, _, hg, hle, _, hsz, hxs⟩⟩ := h
 · obtain ⟨rfl, hn⟩ := h
   have : vs = [] := List.eq_nil_of_length_eq_zero hn
   subst this
   exact ⟨none, 0, rfl, Nat.le_refl _, fun _ => rfl, fun i h => by simp at h⟩
 · refine ⟨_, cap, rfl, hle, fun h => (by cases h), fun i hi => ⟨g, 0, rfl, ?_⟩⟩
   have e : cur.toList[i]? = some vs[i] := by
     have h1 : (cur.toList.take (vs.length * 1))[i]? = vs[i]? := by rw [hxs]
     rw [List.getElem?_take, if_pos (by omega)] at h1
     rw [h1]
     simp [hi]
   simp only [World.cell?, hg, Nat.zero_add]
   simpa using e
theorem info5 : (Tryz.prog.info? 5).map (fun i => (i.zero, i.size, i.bytes)) = some (some (.int .u8 0), 1, 1) := by kernel_rfl
theorem info21 : (Tryz.prog.info? 21).map (fun i => (i.zero, i.size, i.bytes)) = some (some (.int .i32 0), 1, 4) := by kernel_rfl
theorem info3 : (Tryz.prog.info? 3).map (fun i => (i.zero, i.size, i.bytes)) = some (some (.int .i64 0), 1, 8) := by kernel_rfl
theorem run_app {T e : TypeId} {z : Value} {k : Nat} (hT : Tryz.prog.underlying T = some (.slice e)) (hI : (Tryz.prog.info? e).map (fun i => (i.zero, i.size, i.bytes)) = some (some z, 1, k)) (hz : z.cells.size = 1) (hk : k ≤ 8)
   (w : World) (B : Nat) (v : Value) (vs : List Value) (ao : Option Addr) (xs : List Value) (cap : Nat) (ty : TypeId) (ho : Own w B e v vs) (hB : B ≤ w.heap.size) (hr : Rd w ao xs) (h1 : ∀ u ∈ xs, u.oneCell' = true) (hn : ao = none → cap = 0)
   (hlen : vs.length + xs.length ≤ 10000000) :
   ∃ v' w', (Builtin.append_ #[T, T] ty #[v, .slice ao xs.length cap]).run Tryz.prog w = .ok v' w' ∧ Own w' B e v' (vs ++ xs) ∧ Below B w w' ∧ w.grownBy w' v.ownBlock := by
 obtain ⟨i0, hi, hz0, hz1, hz2⟩ := info_parts hI
 cases ao with
 | none =>
   have hx : xs = [] := by
     cases xs with
     | nil => rfl
     | cons x l =>
       obtain ⟨_, _, e, _⟩ := hr 0 (by simp)
       cases e
   subst hx
   rw [hn rfl, List.append_nil]
   exact ⟨v, w, run_append_owned_none (P := Tryz.prog) (w := w) B T ty e i0 1 hT hi v vs.length vs ho, ho, Below.refl _ _, ⟨rfl, rfl, rfl, Nat.le_refl _, fun _ _ _ => rfl⟩⟩
 | some ad =>
   have hnews : ∀ j u, xs[j]? = some u → w.cell? (ad.add j) = some u := by
     intro j u hu
     obtain ⟨hj, _⟩ := List.getElem?_eq_some_iff.1 hu
     obtain ⟨ad', e, h⟩ := hr.cell (by omega)
     cases e
     exact h j u hu
   obtain ⟨v', w', hrun, h1, h2, _⟩ := run_append_own (P := Tryz.prog) w B T ty e i0 z 1 k hT hi hz0 hz1 hz2 hz (by decide) v vs.length vs ho ad xs.length cap xs
     (by rw [Nat.mul_one]) hnews h1 (by unfold maxLen; omega) (by have : (vs.length + xs.length) * k ≤ 10000000 * 8 := Nat.mul_le_mul hlen hk; omega) hB
   refine ⟨v', w', hrun, ?_, (Below.refl _ _).grown h2 hB ho.block, h2⟩
   unfold Own
   rw [List.length_append]
   exact h1
theorem elemSize63 (w : World) : (sizeOf (Tryz.prog.elem 63)).run Tryz.prog w = .ok 1 w := by kernel_rfl
theorem elemSize39 (w : World) : (sizeOf (Tryz.prog.elem 39)).run Tryz.prog w = .ok 1 w := by kernel_rfl
theorem cut_to {T : TypeId} (hT : Tryz.prog.underlying T = some (.slice (Tryz.prog.elem T))) (hS : ∀ w : World, (sizeOf (Tryz.prog.elem T)).run Tryz.prog w = .ok 1 w) (w : World) (ao : Option Addr) (vs : List Value) (n cap k : Nat) (hk : k ≤ n) (hcap : n ≤ cap) (hn : ao = none → cap = 0) (h : Rd w ao vs) :
   ∃ (a1 : Option Addr) (c1 : Nat), Rd w a1 (vs.take k) ∧ k ≤ c1 ∧ (a1 = none → c1 = 0) ∧
     ∀ wx : World, (Instr.slice T (.slice ao n cap) none (some (.int .i64 (k : Int))) none).run Tryz.prog wx = .ok (.slice a1 k c1) wx := by
 refine ⟨if cap = 0 then ao else ao.map (·.add 0), cap, ?_, by omega, ?_, fun wx => ?_⟩
 · split
   · exact h.take k
   · have := (h.drop 0).take k
     rwa [List.drop_zero] at this
 · split
   · intro _; assumption
   · intro e
     cases ao with
     | none => exact hn rfl
     | some _ => cases e
 · rw [run_slice_h (P := Tryz.prog) (w := wx) T ao n cap hT .i64 (k : Int) (by omega) (by omega), hS]
   simp only [Result.andThen, sliced, Int.toNat_natCast, Nat.sub_zero, Nat.zero_mul]
theorem cut_from {T : TypeId} (hT : Tryz.prog.underlying T = some (.slice (Tryz.prog.elem T))) (hS : ∀ w : World, (sizeOf (Tryz.prog.elem T)).run Tryz.prog w = .ok 1 w) (w : World) (ao : Option Addr) (vs : List Value) (n cap k : Nat) (hv : vs.length = n) (hk : k ≤ n) (hcap : n ≤ cap) (hn : ao = none → cap = 0) (h : Rd w ao vs) :
   ∃ (a1 : Option Addr) (c1 : Nat), Rd w a1 (vs.drop k) ∧ n - k ≤ c1 ∧ (a1 = none → c1 = 0) ∧
     ∀ wx : World, (Instr.slice T (.slice ao n cap) (some (.int .i64 (k : Int))) none none).run Tryz.prog wx = .ok (.slice a1 (n - k) c1) wx := by
 refine ⟨if cap = k then ao else ao.map (·.add (k * 1)), cap - k, ?_, by omega, ?_, fun wx => ?_⟩
 · split
   · intro i hi
     rw [List.length_drop] at hi
     omega
   · rw [Nat.mul_one]; exact h.drop k
 · split
   · intro _; omega
   · intro e
     cases ao with
     | none => have := hn rfl; omega
     | some _ => cases e
 · rw [run_slice_l (P := Tryz.prog) (w := wx) T ao n cap hT .i64 (k : Int) (by omega) (by omega), hS]
   simp only [Result.andThen, sliced, Int.toNat_natCast]
theorem conv_any (w : World) (ao : Option Addr) (bs : List UInt8) (cap : Nat) (h : Rd w ao (cB bs)) :
   (convert 63 9 (.slice ao bs.length cap)).run Tryz.prog w = .ok (.string ⟨bs.toArray⟩) w := by
 by_cases hb : bs.length = 0
 · obtain rfl : bs = [] := List.eq_nil_of_length_eq_zero hb
   cases ao with
   | none => exact run_convert_bytes_nil w 63 5 Tryz.underlying63 Tryz.underlying5 _ _ 9 Tryz.underlying9
   | some a =>
     rw [run_convert_bytes_string w 63 9 5 _ _ _ Tryz.underlying63 Tryz.underlying5 Tryz.underlying9]
     exact run_bytesToString w a 0 cap [] (run_loadCells_list (P := Tryz.prog) w a [] (fun j v hj => by simp at hj))
 · obtain ⟨b, off, rfl, _⟩ := h.byte 0 (by omega)
   have := run_convert_bytes_arg (P := Tryz.prog) (w := w) 63 5 Tryz.underlying63 Tryz.underlying5 b off bs.length cap (bs.map fun c => (c.toNat : Int)) (by simp) (fun i hi => by
     obtain ⟨b', off', e, hc⟩ := h.byte i hi
     simp only [Option.some.injEq, Addr.mk.injEq] at e
     obtain ⟨rfl, rfl, _⟩ := e
     rw [hc]
     simp [hi]) 9 Tryz.underlying9
   rw [this]
   simp [strOfNums, Function.comp_def]
theorem grown_below {w w' : World} (h : Below w.heap.size w w') (row : Option Nat) : w.grownBy w' row := ⟨h.os, h.tape, h.output, h.size, fun k hk _ => h.block k hk⟩
theorem Own.later {w wx : World} {B : Nat} {e : TypeId} {v : Value} {vs : List Value} (h : Own w B e v vs) (hb : Below w.heap.size w wx) : Own wx B e v vs :=
 World.ownsRow.kept h (grown_below hb none) (by cases v.ownBlock <;> simp)
theorem not_row {W : World} {B : Nat} {cs : Array Value} {t e : TypeId} {fz : Nat × Nat} (h : W.heap[B]? = some (.cells cs t fz)) (hte : t ≠ e) {base size k : Nat} {v : Value} {xs : List Value} (hr : W.ownsRow base e size v k xs) : some B ≠ v.ownBlock := by
 rcases hr.2 with ⟨rfl, _⟩ | ⟨g, cap, cur, rfl, _, hgb, _⟩
 · simp [Value.ownBlock]
 · intro e'
   obtain rfl : B = g := by simpa [Value.ownBlock] using e'
   have := h.symm.trans hgb
   simp at this
   exact hte this.2.1
def ptsOf (l : List M.Sq) : List Int := l.map fun s => (s.2.1 : Int)
def stsOf (l : List M.Sq) : List Int := l.map fun s => (s.1 : Int)
theorem ptsOf_snoc (l : List M.Sq) (x : M.Sq) : ptsOf (l ++ [x]) = ptsOf l ++ [(x.2.1 : Int)] := by simp [ptsOf]
theorem stsOf_snoc (l : List M.Sq) (x : M.Sq) : stsOf (l ++ [x]) = stsOf l ++ [(x.1 : Int)] := by simp [stsOf]
theorem ptsOf_length (l : List M.Sq) : (ptsOf l).length = l.length := by simp [ptsOf]
theorem stsOf_length (l : List M.Sq) : (stsOf l).length = l.length := by simp [stsOf]
end Go.Proofs.YtgngaldoemopjaaGreatDoor
