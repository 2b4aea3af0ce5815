/- Joined: UMk Sbv Sbk Sbl. -/
import Derived.Test.YtgngaldoemopjaaGreatDoorESbw
namespace Go.Proofs.YtgngaldoemopjaaGreatDoor.U
theorem S.hs_bounds {l : List S.R} {p : Int} (h : S.hs l p) : 0 ≤ p ∧ p ≤ 1114111 := by rw [← S.set_has] at h; exact (S.set_canon l).bounds h
def msk (T : List (List S.R)) (p : Int) : Nat → Nat
 | 0 => 0
 | n + 1 => msk T p n ^^^ (if S.hB (T.getD n []) p then 2 ^ n else 0)
theorem mk_bit (T : List (List S.R)) (p : Int) (n j : Nat) : (msk T p n).testBit j = (decide (j < n) && S.hB (T.getD j []) p) := by
 induction n with
 | zero => simp [msk]
 | succ n ih =>
   rw [msk, Nat.testBit_xor, ih]
   by_cases hj : j = n
   · subst hj
     by_cases h : S.hB (T.getD j []) p = true
     · rw [if_pos h, Nat.testBit_two_pow_self, h]; simp
     · rw [if_neg h, Nat.zero_testBit]; simp at h; simp [h]
   · have e : (if S.hB (T.getD n []) p then 2 ^ n else 0).testBit j = false := by
       split
       · rw [Nat.testBit_two_pow]; simpa using fun h => hj h.symm
       · simp
     rw [e]
     by_cases h : j < n
     · simp [h, Nat.lt_succ_of_lt h]
     · have : ¬ j < n + 1 := by omega
       simp [h, this]
theorem hasB_cons (r : S.R) (l : List S.R) (p : Int) : S.hasB (r :: l) p = ((decide (r.1 ≤ p) && decide (p ≤ r.2)) || S.hasB l p) := by simp [S.hasB]
theorem hB_set (l : List S.R) (p : Int) : S.hB l p = S.hasB (S.set l) p := by
 rw [Bool.eq_iff_iff, S.hB_iff, S.hasB_iff, S.set_has]
theorem par_cons (n : Nat) : decide ((n + 1) % 2 = 1) = !decide (n % 2 = 1) := by
 rcases Nat.mod_two_eq_zero_or_one n with h | h
 · have : (n + 1) % 2 = 1 := by omega
   simp [h, this]
 · have : (n + 1) % 2 = 0 := by omega
   simp [h, this]
theorem evR_cons (j : Nat) (r : S.R) (l : List S.R) : evR j (r :: l) = (r.1, j) :: (r.2 + 1, j) :: evR j l := by simp [evR]
theorem evR_par (j : Nat) (k : Int) : ∀ zs : List S.R, S.Canon zs → decide (((evR j zs).filter fun p => p.1 == k && p.2 == j).length % 2 = 1) = (S.hasB zs k ^^ S.hasB zs (k - 1))
 | [], _ => by simp [evR, S.hasB]
 | r :: l, hc => by
   have ih := evR_par j k l hc.tail
   have hr := hc.head
   have hbk := fun p (h : S.hasB l p = true) => hc.behind ((S.hasB_iff l p).1 h)
   rw [evR_cons, hasB_cons, hasB_cons, List.filter_cons, List.filter_cons]
   generalize ((evR j l).filter fun p => p.1 == k && p.2 == j) = F at ih ⊢
   have hk := hbk k
   have hk1 := hbk (k - 1)
   by_cases h1 : r.1 = k
   · have h2 : ¬ r.2 + 1 = k := by omega
     have e1 : S.hasB l k = false := by
       cases h : S.hasB l k with
       | false => rfl
       | true => have := hk h; omega
     have e2 : S.hasB l (k - 1) = false := by
       cases h : S.hasB l (k - 1) with
       | false => rfl
       | true => have := hk1 h; omega
     rw [e1, e2] at ih
     have h3 : k ≤ r.2 := by omega
     have h4 : ¬ r.1 ≤ k - 1 := by omega
     rw [if_pos (by simpa using h1), if_neg (by simpa using h2), List.length_cons, par_cons, ih, e1, e2]
     rw [decide_eq_true (by omega : r.1 ≤ k), decide_eq_true h3, decide_eq_false h4]
     rfl
   · by_cases h2 : r.2 + 1 = k
     · have e1 : S.hasB l k = false := by
         cases h : S.hasB l k with
         | false => rfl
         | true => have := hk h; omega
       have e2 : S.hasB l (k - 1) = false := by
         cases h : S.hasB l (k - 1) with
         | false => rfl
         | true => have := hk1 h; omega
       rw [e1, e2] at ih
       have h3 : ¬ k ≤ r.2 := by omega
       have h4 : r.1 ≤ k - 1 := by omega
       have h5 : k - 1 ≤ r.2 := by omega
       rw [if_neg (by simpa using h1), if_pos (by simpa using h2), List.length_cons, par_cons, ih, e1, e2]
       simp [h3, h4, h5]
     · have e : (decide (r.1 ≤ k) && decide (k ≤ r.2)) = (decide (r.1 ≤ k - 1) && decide (k - 1 ≤ r.2)) := by
         by_cases h3 : r.1 ≤ k
         · by_cases h4 : k ≤ r.2
           · have : r.1 ≤ k - 1 := by omega
             have : k - 1 ≤ r.2 := by omega
             simp [*]
           · have : ¬ k - 1 ≤ r.2 := by omega
             simp [*]
         · have : ¬ r.1 ≤ k - 1 := by omega
           simp [*]
       rw [if_neg (by simpa using h1), if_neg (by simpa using h2), ih, e]
       cases hq : (decide (r.1 ≤ k - 1) && decide (k - 1 ≤ r.2)) with
       | false => simp
       | true =>
         simp only [Bool.and_eq_true, decide_eq_true_eq] at hq
         have e1 : S.hasB l k = false := by
           cases h : S.hasB l k with
           | false => rfl
           | true => have := hk h; omega
         have e2 : S.hasB l (k - 1) = false := by
           cases h : S.hasB l (k - 1) with
           | false => rfl
           | true => have := hk1 h; omega
         rw [e1, e2]
         simp
theorem evT_par (T : List (List S.R)) (k : Int) (j n : Nat) : decide (((evT T n).filter fun p => p.1 == k && p.2 == j).length % 2 = 1) = (decide (j < n) && (S.hB (T.getD j []) k ^^ S.hB (T.getD j []) (k - 1))) := by
 induction n with
 | zero => simp [evT_zero]
 | succ n ih =>
   rw [evT_succ, List.filter_append, List.length_append]
   by_cases hj : j = n
   · subst hj
     have e : ((evT T j).filter fun p => p.1 == k && p.2 == j) = [] := by
       rw [List.filter_eq_nil_iff]
       intro p hp
       have := evT_lt hp
       have : ¬ p.2 = j := by omega
       simp [this]
     rw [e, List.length_nil, Nat.zero_add, evR_par j k _ (S.set_canon _), hB_set, hB_set]
     simp
   · have e : ((evR n (S.set (T.getD n []))).filter fun p => p.1 == k && p.2 == j) = [] := by
       rw [List.filter_eq_nil_iff]
       intro p hp
       have := (evR_mem hp).1
       have : ¬ p.2 = j := by omega
       simp [this]
     rw [e, List.length_nil, Nat.add_zero, ih]
     by_cases h : j < n
     · simp [h, Nat.lt_succ_of_lt h]
     · have : ¬ j < n + 1 := by omega
       simp [h, this]
theorem mk_step (T : List (List S.R)) (k : Int) (n : Nat) : msk T k n = msk T (k - 1) n ^^^ (evN (evT T n) k).getD 0 := by
 refine Nat.eq_of_testBit_eq fun j => ?_
 rw [Nat.testBit_xor, mk_bit, mk_bit, evN_bit, evT_par]
 cases decide (j < n) <;> cases S.hB (T.getD j []) k <;> cases S.hB (T.getD j []) (k - 1) <;> rfl
theorem mk_quiet (T : List (List S.R)) (n : Nat) (a : Int) : ∀ (d : Nat), (∀ p, a < p → p ≤ a + d → evN (evT T n) p = none) → msk T (a + d) n = msk T a n
 | 0, _ => by simp
 | d + 1, h => by
   have ih := mk_quiet T n a d fun p h1 h2 => h p h1 (by push_cast; omega)
   rw [mk_step, show a + ((d + 1 : Nat) : Int) - 1 = a + (d : Int) by push_cast; omega, h (a + ((d + 1 : Nat) : Int)) (by push_cast; omega) (by omega), ih]
   simp
theorem mk_still {T : List (List S.R)} {n : Nat} {a b : Int} (hab : a ≤ b) (h : ∀ p, a < p → p ≤ b → evN (evT T n) p = none) : msk T b n = msk T a n := by
 have := mk_quiet T n a (b - a).toNat fun p h1 h2 => h p h1 (by omega)
 rwa [show a + ((b - a).toNat : Int) = b by omega] at this
theorem mk_neg (T : List (List S.R)) (n : Nat) (p : Int) (hp : p < 0) : msk T p n = 0 := by
 refine Nat.eq_of_testBit_eq fun j => ?_
 rw [mk_bit, Nat.zero_testBit]
 cases h : S.hB (T.getD j []) p with
 | false => simp
 | true => have := (S.hs_bounds ((S.hB_iff _ _).1 h)).1; omega
structure Cov (T : List (List S.R)) (n : Nat) (P : List (S.R × Nat)) (b : Int) : Prop where
 each : ∀ q ∈ P, 0 ≤ q.1.1 ∧ q.1.1 ≤ q.1.2 ∧ q.1.2 < b ∧ ∀ p, q.1.1 ≤ p → p ≤ q.1.2 → msk T p n = q.2
 rise : P.Pairwise fun x y => x.1.2 < y.1.1
 all : ∀ p, 0 ≤ p → p < b → ∃ q ∈ P, q.1.1 ≤ p ∧ p ≤ q.1.2
theorem Cov.nil (T : List (List S.R)) (n : Nat) : Cov T n [] 0 := ⟨fun q h => by simp at h, List.Pairwise.nil, fun p h1 h2 => by omega⟩
theorem Cov.snoc {T : List (List S.R)} {n : Nat} {P : List (S.R × Nat)} {b a : Int} {m : Nat} (h : Cov T n P b) (h0 : 0 ≤ b) (hab : b < a) (hm : ∀ p, b ≤ p → p ≤ a - 1 → msk T p n = m) : Cov T n (P ++ [((b, a - 1), m)]) a := by
 refine ⟨fun q hq => ?_, ?_, fun p h1 h2 => ?_⟩
 · rcases List.mem_append.1 hq with hq | hq
   · have := h.each q hq
     exact ⟨this.1, this.2.1, by omega, this.2.2.2⟩
   · obtain rfl : q = ((b, a - 1), m) := by simpa using hq
     exact ⟨h0, by simp only; omega, by simp only; omega, hm⟩
 · refine List.pairwise_append.2 ⟨h.rise, List.pairwise_singleton _ _, fun x hx y hy => ?_⟩
   obtain rfl : y = ((b, a - 1), m) := by simpa using hy
   exact (h.each x hx).2.2.1
 · by_cases hp : p < b
   · obtain ⟨q, hq, h3⟩ := h.all p h1 hp
     exact ⟨q, List.mem_append_left _ hq, h3⟩
   · exact ⟨((b, a - 1), m), by simp, by simp only; omega, by simp only; omega⟩
theorem run_cov (T : List (List S.R)) (n : Nat) (zs : List (Int × Nat)) (hz : zs.Pairwise fun x y => x.1 < y.1) (h0 : ∀ z ∈ zs, 0 ≤ z.1) (hv : ∀ z ∈ zs, (evN (evT T n) z.1).getD 0 = z.2) (c : Int) (hc : ∀ z ∈ zs, z.1 ≤ c)
   (hn : ∀ p, p ≤ c → (evN (evT T n) p).isSome = true → ∃ z ∈ zs, z.1 = p) :
   Cov T n (runP zs).2 (runP zs).1.1 ∧ 0 ≤ (runP zs).1.1 ∧ (∀ p, (runP zs).1.1 ≤ p → p ≤ c → msk T p n = (runP zs).1.2) := by
 rcases List.eq_nil_or_concat zs with rfl | ⟨zs', ⟨a, t⟩, rfl⟩
 · refine ⟨Cov.nil T n, Int.le_refl _, fun p h1 h2 => ?_⟩
   have h3 : msk T p n = msk T (-1) n := mk_still (by simp [runP] at h1; omega) fun q h4 h5 => by
     cases he : evN (evT T n) q with
     | none => rfl
     | some m =>
       obtain ⟨z, hz, _⟩ := hn q (by omega) (by rw [he]; rfl)
       simp at hz
   rw [h3, mk_neg T n (-1) (by omega)]
   rfl
 · rw [List.concat_eq_append] at hz h0 hv hc hn ⊢
   have hp := List.pairwise_append.1 hz
   have hlt : ∀ z ∈ zs', z.1 < a := fun z h => hp.2.2 z h (a, t) (by simp)
   obtain ⟨c1, c2, c3⟩ := run_cov T n zs' hp.1 (fun z h => h0 z (by simp [h])) (fun z h => hv z (by simp [h])) (a - 1) (fun z h => by have := hlt z h; omega) (fun p h1 h2 => by
     obtain ⟨z, hz1, hz2⟩ := hn p (by have := hc (a, t) (by simp); simp only at this; omega) h2
     rcases List.mem_append.1 hz1 with h | h
     · exact ⟨z, h, hz2⟩
     · obtain rfl : z = (a, t) := by simpa using h
       simp only at hz2
       omega)
   have ha0 := h0 (a, t) (by simp)
   have hac := hc (a, t) (by simp)
   have hta := hv (a, t) (by simp)
   have hfa : (runP zs').1.1 ≤ a := by
     rcases List.eq_nil_or_concat zs' with rfl | ⟨zs2, ⟨b, s⟩, rfl⟩
     · exact ha0
     · rw [List.concat_eq_append, runP_snoc]
       have := hlt (b, s) (by simp)
       simp only at this ⊢
       omega
   simp only at ha0 hac hta
   rw [runP_snoc]
   have hnext : ∀ p, a ≤ p → p ≤ c → msk T p n = (runP zs').1.2 ^^^ t := fun p h1 h2 => by
     have h3 : msk T p n = msk T a n := mk_still h1 fun q h4 h5 => by
       cases he : evN (evT T n) q with
       | none => rfl
       | some m =>
         obtain ⟨z, hz1, hz2⟩ := hn q (by omega) (by rw [he]; rfl)
         rcases List.mem_append.1 hz1 with h | h
         · have := hlt z h; omega
         · obtain rfl : z = (a, t) := by simpa using h
           simp only at hz2
           omega
     rw [h3, mk_step, hta]
     congr 1
     by_cases hfa2 : (runP zs').1.1 ≤ a - 1
     · exact c3 (a - 1) hfa2 (Int.le_refl _)
     · -- the first end, at 0
       have e0 : a = 0 ∧ zs' = [] := by
         rcases List.eq_nil_or_concat zs' with rfl | ⟨zs2, ⟨b, s⟩, rfl⟩
         · simp [runP] at hfa2
           exact ⟨by omega, rfl⟩
         · rw [List.concat_eq_append, runP_snoc] at hfa2
           have := hlt (b, s) (by simp)
           simp only at this hfa2
           omega
       obtain ⟨rfl, rfl⟩ := e0
       rw [mk_neg T n _ (by omega)]
       rfl
   refine ⟨?_, ha0, hnext⟩
   split
   · rename_i hlt2
     exact c1.snoc c2 hlt2 c3
   · have : (runP zs').1.1 = a := by omega
     rw [List.append_nil]
     rw [this] at c1
     exact c1
termination_by zs.length
decreasing_by simp_all
theorem pieces_cov (ls : List L3) (hl : ls.length ≤ 64) : Cov (TOf ls) ls.length (pieces (endsZ ls)) 1114112 := by
 have hin := endsZ_in ls hl
 have hb := runP_bounds hin
 have hsrt : (endsZ ls).Pairwise fun x y => x.1 < y.1 := by
   unfold endsZ
   exact List.pairwise_map.2 (ksOf_sorted _)
 have hv : ∀ z ∈ endsZ ls, (evN (evT (TOf ls) ls.length) z.1).getD 0 = z.2 := fun z h => by
   obtain ⟨k, _, rfl⟩ := List.mem_map.1 h
   rfl
 obtain ⟨c1, c2, c3⟩ := run_cov (TOf ls) ls.length (endsZ ls) hsrt (fun z h => (hin z h).1) hv 1114112 (fun z h => (hin z h).2.1) (fun p _ h => by
   obtain ⟨i, hi⟩ := (evN_some _ _).1 h
   exact ⟨_, List.mem_map.2 ⟨p, (ksOf_mem _ _).2 ⟨i, hi⟩, rfl⟩, rfl⟩)
 unfold pieces
 by_cases h : (runP (endsZ ls)).1.1 ≤ 1114111
 · rw [if_pos h]
   have := c1.snoc (a := 1114112) c2 (by omega) fun p h1 h2 => c3 p h1 (by omega)
   exact this
 · rw [if_neg h, List.append_nil]
   have : (runP (endsZ ls)).1.1 = 1114112 := by omega
   rw [this] at c1
   exact c1
theorem cov_ms {T : List (List S.R)} {n : Nat} {P : List (S.R × Nat)} (h : Cov T n P 1114112) (m : Nat) : m ∈ msOf P ↔ ∃ p, 0 ≤ p ∧ p ≤ 1114111 ∧ msk T p n = m := by
 rw [msOf_mem]
 constructor
 · rintro ⟨q, hq, rfl⟩
   have := h.each q hq
   exact ⟨q.1.1, this.1, by omega, this.2.2.2 _ (Int.le_refl _) this.2.1⟩
 · rintro ⟨p, h1, h2, rfl⟩
   obtain ⟨q, hq, h3, h4⟩ := h.all p h1 (by omega)
   exact ⟨q, hq, ((h.each q hq).2.2.2 p h3 h4).symm⟩
theorem cov_rise {T : List (List S.R)} {n : Nat} {P : List (S.R × Nat)} (h : Cov T n P 1114112) : (psOf (msOf P) P).Pairwise fun a b => a.1 < b.1 := by
 unfold psOf
 rw [List.pairwise_map]
 exact h.rise.imp_of_mem fun {a b} ha _ hab => by have := h.each a ha; simp only; omega
theorem cov_of {T : List (List S.R)} {n : Nat} {P : List (S.R × Nat)} (h : Cov T n P 1114112) {r q : Int}
   (hq : (1114111 < r ∧ q = -1) ∨ (r ≤ 1114111 ∧ Cnt (psOf (msOf P) P) r 0 ∧ q = -1) ∨ (r ≤ 1114111 ∧ ∃ k, ∃ hk : k < (psOf (msOf P) P).length, Cnt (psOf (msOf P) P) r (k + 1) ∧ q = ((psOf (msOf P) P)[k].2 : Int))) :
   q = if 0 ≤ r ∧ r ≤ 1114111 then ((msOf P).idxOf (msk T r n) : Int) else -1 := by
 rcases hq with ⟨h1, rfl⟩ | ⟨h1, ⟨_, _, h2⟩, rfl⟩ | ⟨h1, k, hk, ⟨_, h2, h3⟩, rfl⟩
 · rw [if_neg (by omega)]
 · by_cases h0 : 0 ≤ r
   · obtain ⟨x, hx, h3, _⟩ := h.all r h0 (by omega)
     obtain ⟨i, hi, rfl⟩ := List.getElem_of_mem hx
     have := h2 i (by simpa [psOf] using hi) (Nat.zero_le _)
     simp only [psOf, List.getElem_map] at this
     omega
   · rw [if_neg (by omega)]
 · have hk' : k < P.length := by simpa [psOf] using hk
   have hle := h2 k hk (by omega)
   simp only [psOf, List.getElem_map] at hle ⊢
   have h0 := (h.each _ (List.getElem_mem hk')).1
   rw [if_pos ⟨by omega, h1⟩]
   obtain ⟨x, hx, h4, h5⟩ := h.all r (by omega) (by omega)
   obtain ⟨i, hi, rfl⟩ := List.getElem_of_mem hx
   have hik : i = k := by
     rcases Nat.lt_trichotomy i k with h6 | h6 | h6
     · have := List.pairwise_iff_getElem.1 h.rise i k hi hk' h6
       omega
     · exact h6
     · have := h3 i (by simpa [psOf] using hi) (by omega)
       simp only [psOf, List.getElem_map] at this
       omega
   subst hik
   rw [(h.each _ (List.getElem_mem hi)).2.2.2 r h4 h5]
end Go.Proofs.YtgngaldoemopjaaGreatDoor.U
namespace Go.Proofs.YtgngaldoemopjaaGreatDoor
open Go.RowKit Go.Shelf
attribute [local go_sem] Oper.semAt_some
namespace SB
def inL (L : List Nat) (s : Int) : Bool := decide (0 ≤ s ∧ s < L.length)
def mkI (L : List Nat) (s : Int) : Nat := if inL L s then L.getD s.toNat 0 else 0
def acI (a : PA.Au) (L : List Nat) (s : Int) : Bool := inL L s && PA.acc a (L.getD s.toNat 0)
def nxI (a : PA.Au) (ms L : List Nat) (s c : Int) : Int := if inL L s ∧ 0 ≤ c ∧ c < ms.length then (L.idxOf (PA.behind a (L.getD s.toNat 0) &&& (ms.getD c.toNat 0 % 2 ^ a.pl.length)) : Int) else -1
def clI (ps : List (Int × Nat)) (r : Int) : Int := if 1114111 < r then -1 else match (ps.filter fun p => decide (p.1 ≤ r)).length with
 | 0 => -1
 | k + 1 => ((ps.getD k (0, 0)).2 : Int)
end SB
theorem cnt_len {ps : List (Int × Nat)} {r : Int} {k : Nat} (h : U.Cnt ps r k) : (ps.filter fun p => decide (p.1 ≤ r)).length = k := by
 obtain ⟨h1, h2, h3⟩ := h
 rw [← List.take_append_drop k ps, List.filter_append, List.filter_eq_self.2, List.filter_eq_nil_iff.2]
 · rw [List.append_nil, List.length_take]; omega
 · intro p hp
   obtain ⟨i, hi, rfl⟩ := List.mem_iff_getElem.1 hp
   rw [List.length_drop] at hi
   rw [List.getElem_drop]
   have := h3 (k + i) (by omega) (by omega)
   simp
   omega
 · intro p hp
   obtain ⟨i, hi, rfl⟩ := List.mem_iff_getElem.1 hp
   rw [List.length_take] at hi
   rw [List.getElem_take]
   simpa using h2 i (by omega) (by omega)
theorem elemSize70 (w : World) : (sizeOf (Tryz.prog.elem 70)).run Tryz.prog w = .ok 3 w := by kernel_rfl
section
variable {W : World} {D : Nat} {a : PA.Au} {ms : List Nat} {ps : List (Int × Nat)} {L : List Nat}
set_option maxRecDepth 100000 in
set_option maxHeartbeats 1000000 in
theorem dlen_any (h : DAt W D a ms ps L) : Calls Tryz.prog 11 #[.pointer (some ⟨D, 0, none⟩)] W fun e w' => e = .returned (.int .i64 (L.length : Int)) ∧ w' = W := by
 obtain ⟨sets, so, sc, _, c3, _⟩ := h
 go_enter Tryz.func11, Tryz.ntmps11
 go_wp2
 go_ret
 exact ⟨rfl, rfl⟩
set_option maxRecDepth 100000 in
set_option maxHeartbeats 1000000 in
theorem dcls_any (h : DAt W D a ms ps L) : Calls Tryz.prog 12 #[.pointer (some ⟨D, 0, none⟩)] W fun e w' => e = .returned (.int .i64 (ms.length : Int)) ∧ w' = W := by
 obtain ⟨sets, so, sc, hc, _, _⟩ := h
 have hl := U.clen_any hc
 clear hc
 go_enter Tryz.func12, Tryz.ntmps12
 go_wp2_with fail
 refine hl.mono ?_
 rintro e w1 ⟨rfl, rfl⟩
 clear hl
 go_wp2
 go_ret
 exact ⟨rfl, rfl⟩
set_option maxRecDepth 100000 in
set_option maxHeartbeats 1000000 in
theorem isState_any (h : DAt W D a ms ps L) (s : Int) : Calls Tryz.prog 29 #[.pointer (some ⟨D, 0, none⟩), .int .i64 s] W fun e w' => e = .returned (.bool (SB.inL L s)) ∧ w' = W := by
 obtain ⟨sets, so, sc, _, c3, _⟩ := h
 by_cases h0 : 0 ≤ s
 · by_cases h1 : s < (L.length : Int)
   · have HE : Hid (SB.inL L s = true) := hide (by unfold SB.inL; simp [h0, h1])
     go_enter Tryz.func29, Tryz.ntmps29
     go_wp2
     go_ret
     exact ⟨by rw [HE.out]; rfl, rfl⟩
   · have HE : Hid (SB.inL L s = false) := hide (by unfold SB.inL; simp [h1])
     go_enter Tryz.func29, Tryz.ntmps29
     go_wp2
     go_ret
     exact ⟨by rw [HE.out]; rfl, rfl⟩
 · have HE : Hid (SB.inL L s = false) := hide (by unfold SB.inL; simp [h0])
   go_enter Tryz.func29, Tryz.ntmps29
   go_wp2
   go_ret
   exact ⟨by rw [HE.out]; rfl, rfl⟩
set_option maxRecDepth 100000 in
set_option maxHeartbeats 1000000 in
theorem dmask_any (h : DAt W D a ms ps L) (s : Int) : Calls Tryz.prog 14 #[.pointer (some ⟨D, 0, none⟩), .int .i64 s] W fun e w' => e = .returned (.int .u64 (SB.mkI L s : Int)) ∧ w' = W := by
 have hi := isState_any h s
 obtain ⟨sets, so, sc, _, c3, hr⟩ := h
 have es := elemSize70
 by_cases hs : 0 ≤ s ∧ s < (L.length : Int)
 · have hb : SB.inL L s = true := by unfold SB.inL; simp [hs]
   rw [hb] at hi
   obtain ⟨k, rfl⟩ := Int.eq_ofNat_of_zero_le hs.1
   have hk : k < L.length := by omega
   obtain ⟨g, gr, rfl, d0, d1, d2, _⟩ := hr k hk
   have HE : Hid (SB.mkI L (k : Int) = L[k]) := hide (by unfold SB.mkI; rw [hb, if_pos rfl, Int.toNat_natCast, List.getD_eq_getElem?_getD, List.getElem?_eq_getElem hk]; rfl)
   generalize L[k] = x at *
   clear hr hs hb
   go_enter Tryz.func14, Tryz.ntmps14
   go_wp2_with fail
   refine hi.mono ?_
   rintro e w1 ⟨rfl, rfl⟩
   clear hi
   go_wp2
   go_ret
   exact ⟨by rw [HE.out]; rfl, rfl⟩
 · have hb : SB.inL L s = false := by unfold SB.inL; simpa using hs
   rw [hb] at hi
   have HE : Hid (SB.mkI L s = 0) := hide (by unfold SB.mkI; rw [hb]; rfl)
   clear hr hs hb c3
   go_enter Tryz.func14, Tryz.ntmps14
   go_wp2_with fail
   refine hi.mono ?_
   rintro e w1 ⟨rfl, rfl⟩
   clear hi
   go_wp2
   go_ret
   exact ⟨by rw [HE.out]; rfl, rfl⟩
set_option maxRecDepth 100000 in
set_option maxHeartbeats 1000000 in
theorem dacc_any (h : DAt W D a ms ps L) (s : Int) : Calls Tryz.prog 15 #[.pointer (some ⟨D, 0, none⟩), .int .i64 s] W fun e w' => e = .returned (.bool (SB.acI a L s)) ∧ w' = W := by
 have hi := isState_any h s
 obtain ⟨sets, so, sc, _, c3, hr⟩ := h
 have es := elemSize70
 by_cases hs : 0 ≤ s ∧ s < (L.length : Int)
 · have hb : SB.inL L s = true := by unfold SB.inL; simp [hs]
   rw [hb] at hi
   obtain ⟨k, rfl⟩ := Int.eq_ofNat_of_zero_le hs.1
   have hk : k < L.length := by omega
   obtain ⟨g, gr, rfl, d0, d1, d2, _⟩ := hr k hk
   have HE : Hid (SB.acI a L (k : Int) = PA.acc a L[k]) := hide (by unfold SB.acI; rw [hb, Bool.true_and, Int.toNat_natCast, List.getD_eq_getElem?_getD, List.getElem?_eq_getElem hk]; rfl)
   generalize PA.acc a L[k] = x at *
   clear hr hs hb d0 d2
   go_enter Tryz.func15, Tryz.ntmps15
   go_wp2_with fail
   refine hi.mono ?_
   rintro e w1 ⟨rfl, rfl⟩
   clear hi
   go_wp2
   go_ret
   exact ⟨by rw [HE.out]; rfl, rfl⟩
 · have hb : SB.inL L s = false := by unfold SB.inL; simpa using hs
   rw [hb] at hi
   have HE : Hid (SB.acI a L s = false) := hide (by unfold SB.acI; rw [hb]; rfl)
   clear hr hs hb c3
   go_enter Tryz.func15, Tryz.ntmps15
   go_wp2_with fail
   refine hi.mono ?_
   rintro e w1 ⟨rfl, rfl⟩
   clear hi
   go_wp2
   go_ret
   exact ⟨by rw [HE.out]; rfl, rfl⟩
set_option maxRecDepth 100000 in
set_option maxHeartbeats 1000000 in
theorem dnext_any (h : DAt W D a ms ps L) (s c : Int) : Calls Tryz.prog 13 #[.pointer (some ⟨D, 0, none⟩), .int .i64 s, .int .i64 c] W fun e w' => e = .returned (.int .i64 (SB.nxI a ms L s c)) ∧ w' = W := by
 have hi := isState_any h s
 have hcl := dcls_any h
 obtain ⟨sets, so, sc, _, c3, hr⟩ := h
 have es := elemSize70
 have es2 := elemSize45
 by_cases hs : 0 ≤ s ∧ s < (L.length : Int)
 · have hb : SB.inL L s = true := by unfold SB.inL; simp [hs]
   rw [hb] at hi
   by_cases h0 : 0 ≤ c
   · by_cases h1 : c < (ms.length : Int)
     · obtain ⟨k, rfl⟩ := Int.eq_ofNat_of_zero_le hs.1
       obtain ⟨q, rfl⟩ := Int.eq_ofNat_of_zero_le h0
       have hk : k < L.length := by omega
       have hq : q < ms.length := by omega
       obtain ⟨g, gr, rfl, d0, d1, d2, d3⟩ := hr k hk
       have d4 := d3 q hq
       have HE : Hid (SB.nxI a ms L (k : Int) (q : Int) = (L.idxOf (PA.behind a L[k] &&& (ms[q] % 2 ^ a.pl.length)) : Int)) := hide (by
         unfold SB.nxI
         rw [if_pos ⟨hb, by omega, by omega⟩, Int.toNat_natCast, Int.toNat_natCast, List.getD_eq_getElem?_getD, List.getElem?_eq_getElem hk, List.getD_eq_getElem?_getD, List.getElem?_eq_getElem hq]
         rfl)
       generalize L.idxOf (PA.behind a L[k] &&& (ms[q] % 2 ^ a.pl.length)) = x at *
       clear hr hs hb d0 d1 d3 h0 h1
       go_enter Tryz.func13, Tryz.ntmps13
       go_wp2_with fail
       refine hi.mono ?_
       rintro e w1 ⟨rfl, rfl⟩
       clear hi
       go_wp2_with fail
       refine hcl.mono ?_
       rintro e w2 ⟨rfl, rfl⟩
       clear hcl
       go_wp2
       go_ret
       exact ⟨by rw [HE.out]; rfl, rfl⟩
     · have HE : Hid (SB.nxI a ms L s c = -1) := hide (by unfold SB.nxI; rw [if_neg (fun h => h1 h.2.2)])
       clear hr hs hb c3
       go_enter Tryz.func13, Tryz.ntmps13
       go_wp2_with fail
       refine hi.mono ?_
       rintro e w1 ⟨rfl, rfl⟩
       clear hi
       go_wp2_with fail
       refine hcl.mono ?_
       rintro e w2 ⟨rfl, rfl⟩
       clear hcl
       go_wp2
       go_ret
       exact ⟨by rw [HE.out]; rfl, rfl⟩
   · have HE : Hid (SB.nxI a ms L s c = -1) := hide (by unfold SB.nxI; rw [if_neg (fun h => h0 h.2.1)])
     clear hr hs hb c3 hcl
     go_enter Tryz.func13, Tryz.ntmps13
     go_wp2_with fail
     refine hi.mono ?_
     rintro e w1 ⟨rfl, rfl⟩
     clear hi
     go_wp2
     go_ret
     exact ⟨by rw [HE.out]; rfl, rfl⟩
 · have hb : SB.inL L s = false := by unfold SB.inL; simpa using hs
   rw [hb] at hi
   have HE : Hid (SB.nxI a ms L s c = -1) := hide (by unfold SB.nxI; rw [if_neg (fun h => by rw [hb] at h; cases h.1)])
   clear hr hs hb c3 hcl
   go_enter Tryz.func13, Tryz.ntmps13
   go_wp2_with fail
   refine hi.mono ?_
   rintro e w1 ⟨rfl, rfl⟩
   clear hi
   go_wp2
   go_ret
   exact ⟨by rw [HE.out]; rfl, rfl⟩
set_option maxRecDepth 100000 in
set_option maxHeartbeats 1000000 in
theorem dclass_any (h : DAt W D a ms ps L) (hl : ps.length ≤ 10000000) (hs : ps.Pairwise fun a b => a.1 < b.1) (r : Int) : Calls Tryz.prog 18 #[.pointer (some ⟨D, 0, none⟩), .int .i32 r] W fun e w' => e = .returned (.int .i64 (SB.clI ps r)) ∧ Below W.heap.size W w' := by
 obtain ⟨sets, so, sc, hc, _, _⟩ := h
 have ho := U.cof_any hc hl hs r
 clear hc
 go_enter Tryz.func18, Tryz.ntmps18
 go_wp2_with fail
 refine ho.mono ?_
 rintro e w1 ⟨q, rfl, hb, hq⟩
 have HE : Hid (SB.clI ps r = q) := hide (by
   unfold SB.clI
   rcases hq with ⟨h1, rfl⟩ | ⟨h1, h2, rfl⟩ | ⟨h1, k, hk, h2, rfl⟩
   · rw [if_pos h1]
   · rw [if_neg (by omega), cnt_len h2]
   · rw [if_neg (by omega), cnt_len h2]
     simp [List.getD_eq_getElem?_getD, List.getElem?_eq_getElem hk])
 clear ho hq hs
 go_wp2
 go_ret
 exact ⟨by rw [HE.out]; rfl, hb⟩
set_option maxRecDepth 100000 in
set_option maxHeartbeats 1000000 in
theorem dstep_any (h : DAt W D a ms ps L) (hl : ps.length ≤ 10000000) (hs : ps.Pairwise fun a b => a.1 < b.1) (s r : Int) : Calls Tryz.prog 17 #[.pointer (some ⟨D, 0, none⟩), .int .i64 s, .int .i32 r] W fun e w' => e = .returned (.int .i64 (SB.nxI a ms L s (SB.clI ps r))) ∧ Below W.heap.size W w' := by
 have h1 := dclass_any h hl hs r
 have h2 := fun W' hb => dnext_any (h.later (W' := W') hb) s (SB.clI ps r)
 generalize SB.clI ps r = c at *
 clear h hs hl
 go_enter Tryz.func17, Tryz.ntmps17
 go_wp2_with fail
 refine h1.mono ?_
 rintro e w1 ⟨rfl, hb⟩
 have h3 := h2 w1 hb
 obtain ⟨x, hx⟩ : ∃ x, SB.nxI a ms L s c = x := ⟨_, rfl⟩
 rw [hx] at h3
 have HX := hide hx
 clear hx
 clear h1 h2
 go_wp2_with fail
 refine h3.mono ?_
 rintro e w2 ⟨rfl, rfl⟩
 clear h3
 go_wp2
 go_ret
 exact ⟨by rw [HX.out]; rfl, hb⟩
end
end Go.Proofs.YtgngaldoemopjaaGreatDoor
namespace Go.Proofs.YtgngaldoemopjaaGreatDoor
open Go.RowKit Go.Shelf
open E (T isS)
attribute [local go_sem] Oper.semAt_some
namespace SB
section
variable {bh : Nat → Nat} {fs : List Nat} {k : Nat} (hj : ∀ j < k, j < (gr bh fs j).length)
include hj
theorem gr_at {j : Nat} (h : j < k) (h2 : j < (gr bh fs k).length) : (gr bh fs j).getD j 0 = (gr bh fs k)[j] := by
 obtain ⟨r, hr⟩ := gr_le bh fs (Nat.le_of_lt h)
 rw [List.getD_eq_getElem?_getD, List.getElem?_eq_getElem (hj j h), Option.getD_some]
 have e : (gr bh fs k)[j]? = (gr bh fs j)[j]? := by rw [← hr, List.getElem?_append_left (hj j h)]
 rw [List.getElem?_eq_getElem h2, List.getElem?_eq_getElem (hj j h)] at e
 exact (Option.some.inj e).symm
theorem gr_step (hk : (gr bh fs k).length = k) {j : Nat} (h : j < k) {f : Nat} (hf : f ∈ fs) : bh ((gr bh fs k)[j]'(by omega)) &&& f ∈ gr bh fs k := by
 rw [← gr_at hj h (by omega)]
 exact (gr_le bh fs (show j + 1 ≤ k by omega)).subset (nx_mem _ fs _ f hf)
end
theorem gr_head (bh : Nat → Nat) (fs : List Nat) (k : Nat) (h : 0 < (gr bh fs k).length) : (gr bh fs k)[0] = PA.bg := by
 obtain ⟨r, hr⟩ := gr_le bh fs (Nat.zero_le k)
 have e : (gr bh fs k)[0]? = some PA.bg := by rw [← hr]; rfl
 rw [List.getElem?_eq_getElem h] at e
 exact Option.some.inj e
end SB
namespace PA
def tA1 : T := .mk 1 0 [(97, 97)] [] []
theorem parseA : E.parse [39, 97] = .ok tA1 := by rfl
theorem tA1_ok : treeC tA1 = true := by rfl
def aA : Au := ⟨[([(97, 97)], 0)], ⟨1, 1, false⟩⟩
theorem autoA : auto tA1 = aA := by rfl
end PA
theorem knP {ls : List U.L3} (h : ls.map (·.2.2) = [[(97, 97)]]) : U.pieces (U.endsZ ls) = [((0, 96), 0), ((97, 97), 1), ((98, 1114111), 0)] := by
 have e1 : U.TOf ls = [[(97, 97)]] := h
 have e2 : ls.length = 1 := by have := congrArg List.length h; simpa using this
 have e3 : U.S.set [(97, 97)] = [(97, 97)] := U.S.set_self (U.S.canon_one (by rfl))
 have e4 : U.endsL ls = [(97, 0), (98, 0)] := by
   unfold U.endsL U.evT
   rw [e1, e2]
   show U.evR 0 (U.S.set [(97, 97)]) ++ [] = _
   rw [e3]
   rfl
 unfold U.endsZ
 rw [e4]
 rfl
theorem knM : U.msOf [((0, 96), 0), ((97, 97), 1), ((98, 1114111), 0)] = [0, 1] := by rfl
theorem knQ : U.psOf [0, 1] [((0, 96), 0), ((97, 97), 1), ((98, 1114111), 0)] = [(0, 0), (97, 1), (98, 0)] := by rfl
theorem knG : ∀ k, SB.gr (PA.behind PA.aA) [0, 1] (k + 1) = [PA.bg, 0, 1]
 | 0 => by kernel_rfl
 | 1 => by kernel_rfl
 | 2 => by kernel_rfl
 | k + 3 => by
   rw [SB.gr, knG (k + 2)]
   rw [List.getD_eq_getElem?_getD, List.getElem?_eq_none (by simp), Option.getD_none, PA.behind_zero]
   rfl
def AnsF (t : T) (w : World) (e : Ending) (W : World) : Prop :=
 Below w.heap.size w W ∧ ((¬ (PA.Acc t ∧ PA.ct t ≤ 60) ∧ ∃ f : Int, f ≠ 0 ∧ e = .returned (.tuple #[.pointer none, .int .i64 f])) ∨
   (PA.Acc t ∧ PA.ct t ≤ 60 ∧ ∃ W1, AnsDN (PA.auto t) W1 e W))
set_option maxRecDepth 100000 in
set_option maxHeartbeats 4000000 in
theorem dfa_any (t : T) (d : ND) (w : World) (htab : Tabs w) (hdeb : Deb w) (hT : TR w (fun _ => True) t d.v) (hps : (E.pre t t).length ≤ 1000000) (hnb : ∀ p ∈ E.pre t t, E.NodeB p.1) : Calls Tryz.prog 10 #[d.v] w (AnsF t w) := by
 have b1 := al1 w (.cells #[.int .i64 d.k, .int .i64 d.a, .slice d.sp d.sl d.sc, .string d.n, .slice d.kp d.kl d.kc] 25)
 have n1 := heap_alloc_new w (.cells #[.int .i64 d.k, .int .i64 d.a, .slice d.sp d.sl d.sc, .string d.n, .slice d.kp d.kl d.kc] 25)
 obtain ⟨X, hX⟩ : ∃ X, w.alloc (.cells #[.int .i64 d.k, .int .i64 d.a, .slice d.sp d.sl d.sc, .string d.n, .slice d.kp d.kl d.kc] 25) = X := ⟨_, rfl⟩
 rw [hX] at b1 n1
 obtain ⟨q0, q1, q2, q3, q4⟩ := cells_five n1
 have hN := new_any t d X (htab.later b1) (hdeb.later b1) (TR.later (fun k hk => b1.block k hk) _ hT) hps hnb
 have HD := hide hdeb
 unfold ND.v at hN ⊢
 clear hT htab hdeb n1 hps hnb
 go_enter Tryz.func10, Tryz.ntmps10
 go_wp2_with fail
 refine hN.mono ?_
 rintro e W1 ⟨hb1, ⟨h1, rfl⟩ | ⟨h1, h2, rfl⟩ | ⟨h1, h2, A, rfl, hA⟩⟩
 · have HF := hide (show AnsF t w (.returned (.tuple #[.pointer none, .int .i64 70])) W1 from ⟨nx b1 hb1, .inl ⟨fun h => h1 h.1, 70, by decide, rfl⟩⟩)
   clear hN h1 q0 q1 q2 q3 q4 hX
   go_wp2
   exact bodyPost_ret (v := .tuple #[.pointer none, .int .i64 70]) (by simp [results, Tryz.results10, go_sem]) rfl HF.out
 · have HF := hide (show AnsF t w (.returned (.tuple #[.pointer none, .int .i64 72])) W1 from ⟨nx b1 hb1, .inl ⟨fun h => by omega, 72, by decide, rfl⟩⟩)
   clear hN h1 h2 q0 q1 q2 q3 q4 hX
   go_wp2
   exact bodyPost_ret (v := .tuple #[.pointer none, .int .i64 72]) (by simp [results, Tryz.results10, go_sem]) rfl HF.out
 · have B1 := nx b1 hb1
   have hS := snew_any hA (PA.good_auto h1 h2) (HD.out.later B1)
   have HP := hide (And.intro h1 h2)
   clear hN h1 h2 q0 q1 q2 q3 q4 hX hA
   go_wp2_with fail
   refine hS.mono ?_
   intro e W2 hans
   have HF := hide (show AnsF t w e W2 from ⟨nx B1 hans.1, .inr ⟨HP.out.1, HP.out.2, W1, hans⟩⟩)
   obtain ⟨hb2, ls, hls, ⟨rfl, _⟩ | ⟨D, k, rfl, _⟩⟩ := hans
   · clear hS hls
     go_wp2
     exact bodyPost_ret (v := .tuple #[.pointer none, .int .i64 140]) (by simp [results, Tryz.results10, go_sem]) rfl HF.out
   · clear hS hls
     go_wp2
     exact bodyPost_ret (v := .tuple #[.pointer (some ⟨D, 0, none⟩), .int .i64 0]) (by simp [results, Tryz.results10, go_sem]) rfl HF.out
theorem ansF_A {w W : World} {e : Ending} (h : AnsF PA.tA1 w e W) : Below w.heap.size w W ∧ ∃ D, e = .returned (.tuple #[.pointer (some ⟨D, 0, none⟩), .int .i64 0]) ∧ DAt W D PA.aA [0, 1] [(0, 0), (97, 1), (98, 0)] [PA.bg, 0, 1] := by
 obtain ⟨hb, ⟨h1, _⟩ | ⟨h1, h2, W1, hb2, ls, hls, h3⟩⟩ := h
 · exact absurd ⟨(PA.treeC_ok PA.tA1_ok).1, by decide⟩ h1
 · rw [PA.autoA] at hls h3
   have hp : pcs ls = [((0, 96), 0), ((97, 97), 1), ((98, 1114111), 0)] := knP hls
   rw [hp, knM] at h3
   have hf : SB.fsOf PA.aA [0, 1] = [0, 1] := by rfl
   rw [hf] at h3
   rcases h3 with ⟨rfl, k, h4, _, h5⟩ | ⟨D, k, rfl, hk, _, _, hD⟩
   · rw [knG] at h5
     exact absurd h5 (by simp)
   · cases k with
     | zero => rw [SB.gr] at hk; exact absurd hk (by simp)
     | succ k =>
       rw [knG] at hD
       rw [knQ] at hD
       exact ⟨hb, D, rfl, hD⟩
end Go.Proofs.YtgngaldoemopjaaGreatDoor
namespace Go.Proofs.YtgngaldoemopjaaGreatDoor
open Go.RowKit Go.Shelf
open E (T isS)
attribute [local go_sem] Oper.semAt_some
set_option maxRecDepth 100000 in
set_option maxHeartbeats 4000000 in
theorem known14_any (w : World) (ht : Tabs w) (hd : Deb w) : Calls Tryz.prog 8 #[] w fun e w' => e = .returned (.bool true) ∧ Below w.heap.size w w' := by
 have h1 := parse_light ⟨#[39, 97]⟩ (by decide) (light_of (by kernel_rfl)) w ht
 rw [show E.parse (bts ⟨#[39, 97]⟩) = _ from PA.parseA] at h1
 obtain ⟨hac, hnb, hps⟩ := PA.treeC_ok PA.tA1_ok
 go_enter Tryz.func8, Tryz.ntmps8
 go_wp2_with fail
 refine h1.mono ?_
 intro e w1 ha
 obtain ⟨hb1, d, rfl, htr⟩ := ha.ok
 have a2 := al1 w1 (.cells #[.int .i64 d.k, .int .i64 d.a, .slice d.sp d.sl d.sc, .string d.n, .slice d.kp d.kl d.kc] 25)
 have n2 := heap_alloc_new w1 (.cells #[.int .i64 d.k, .int .i64 d.a, .slice d.sp d.sl d.sc, .string d.n, .slice d.kp d.kl d.kc] 25)
 have B2 := nx hb1 a2
 have hN := dfa_any PA.tA1 d (w1.alloc (.cells #[.int .i64 d.k, .int .i64 d.a, .slice d.sp d.sl d.sc, .string d.n, .slice d.kp d.kl d.kc] 25)) (ht.later B2) (hd.later B2) (TR.later (fun k hk => a2.block k hk) _ htr) hps hnb
 clear h1 ha htr a2 n2
 unfold ND.v at hN ⊢
 go_wp2_with fail
 refine hN.mono ?_
 intro e W3 hw
 obtain ⟨hb3, D, rfl, hD⟩ := ansF_A hw
 have B3 := nx B2 hb3
 clear hN hw
 have c1 : Calls Tryz.prog 11 #[.pointer (some ⟨D, 0, none⟩)] W3 fun e W => e = .returned (.int .i64 3) ∧ W = W3 := dlen_any hD
 have c2 : Calls Tryz.prog 12 #[.pointer (some ⟨D, 0, none⟩)] W3 fun e W => e = .returned (.int .i64 2) ∧ W = W3 := dcls_any hD
 have c3 : Calls Tryz.prog 17 #[.pointer (some ⟨D, 0, none⟩), .int .i64 0, .int .i32 97] W3 fun e W => e = .returned (.int .i64 2) ∧ Below W3.heap.size W3 W := by
   have := dstep_any hD (by decide) (by decide) 0 97
   rw [show SB.nxI PA.aA [0, 1] [PA.bg, 0, 1] 0 (SB.clI [(0, 0), (97, 1), (98, 0)] 97) = 2 by kernel_rfl] at this
   exact this
 go_wp2_with (first | (refine c1.mono ?_; rintro e w' ⟨rfl, rfl⟩) | (refine c2.mono ?_; rintro e w' ⟨rfl, rfl⟩))
 refine c3.mono ?_
 rintro e W4 ⟨rfl, hb4⟩
 have hD4 := hD.later hb4
 have B4 := nx B3 hb4
 clear c1 c2 c3 hD hb4 B3
 have c4 : Calls Tryz.prog 15 #[.pointer (some ⟨D, 0, none⟩), .int .i64 2] W4 fun e W => e = .returned (.bool true) ∧ W = W4 := by
   have := dacc_any hD4 2
   rw [show SB.acI PA.aA [PA.bg, 0, 1] 2 = true by kernel_rfl] at this
   exact this
 have c5 : Calls Tryz.prog 15 #[.pointer (some ⟨D, 0, none⟩), .int .i64 0] W4 fun e W => e = .returned (.bool false) ∧ W = W4 := by
   have := dacc_any hD4 0
   rw [show SB.acI PA.aA [PA.bg, 0, 1] 0 = false by kernel_rfl] at this
   exact this
 have c6 : Calls Tryz.prog 14 #[.pointer (some ⟨D, 0, none⟩), .int .i64 0] W4 fun e W => e = .returned (.int .u64 9223372036854775808) ∧ W = W4 := by
   have := dmask_any hD4 0
   rw [show (SB.mkI [PA.bg, 0, 1] 0 : Int) = 9223372036854775808 by kernel_rfl] at this
   exact this
 have c7 : Calls Tryz.prog 13 #[.pointer (some ⟨D, 0, none⟩), .int .i64 0, .int .i64 5] W4 fun e W => e = .returned (.int .i64 (-1)) ∧ W = W4 := by
   have := dnext_any hD4 0 5
   rw [show SB.nxI PA.aA [0, 1] [PA.bg, 0, 1] 0 5 = -1 by kernel_rfl] at this
   exact this
 clear hD4
 go_wp2_with fail
 refine c4.mono ?_
 rintro e w' ⟨rfl, rfl⟩
 clear c4
 go_wp2_with fail
 refine c5.mono ?_
 rintro e w' ⟨rfl, rfl⟩
 clear c5
 go_wp2_with fail
 refine c6.mono ?_
 rintro e w' ⟨rfl, rfl⟩
 clear c6
 go_wp2_with fail
 refine c7.mono ?_
 rintro e w' ⟨rfl, rfl⟩
 clear c7
 go_wp2
 go_ret
 exact ⟨rfl, B4⟩
end Go.Proofs.YtgngaldoemopjaaGreatDoor
