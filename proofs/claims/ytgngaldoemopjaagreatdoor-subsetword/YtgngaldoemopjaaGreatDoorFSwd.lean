/- Joined: UMk Ssp Swb Swc Swd. -/
import Derived.Test.YtgngaldoemopjaaGreatDoorFSbw
import Derived.Test.YtgngaldoemopjaaGreatDoorFSwa
import Derived.BigRegion
namespace Go.Proofs.YtgngaldoemopjaaGreatDoor.U
theorem S.hs_bounds {l : List S.R} {p : Int} (h : S.hs l p) : 0 ≤ p ∧ p ≤ 1114111 := by rw [← S.set_has] at h; exact (S.set_canon l).bounds h
def msk (T : List (List S.R)) (p : Int) : Nat → Nat
 | 0 => 0
 | n + 1 => msk T p n ^^^ (if S.hB (T.getD n []) p then 2 ^ n else 0)
theorem mk_bit (T : List (List S.R)) (p : Int) (n j : Nat) : (msk T p n).testBit j = (decide (j < n) && S.hB (T.getD j []) p) := by
 induction n with
 | zero => simp [msk]
 | succ n ih =>
   rw [msk, Nat.testBit_xor, ih]
   by_cases hj : j = n
   · subst hj
     by_cases h : S.hB (T.getD j []) p = true
     · rw [if_pos h, Nat.testBit_two_pow_self, h]; simp
     · rw [if_neg h, Nat.zero_testBit]; simp at h; simp [h]
   · have e : (if S.hB (T.getD n []) p then 2 ^ n else 0).testBit j = false := by
       split
       · rw [Nat.testBit_two_pow]; simpa using fun h => hj h.symm
       · simp
     rw [e]
     by_cases h : j < n
     · simp [h, Nat.lt_succ_of_lt h]
     · have : ¬ j < n + 1 := by omega
       simp [h, this]
theorem hasB_cons (r : S.R) (l : List S.R) (p : Int) : S.hasB (r :: l) p = ((decide (r.1 ≤ p) && decide (p ≤ r.2)) || S.hasB l p) := by simp [S.hasB]
theorem hB_set (l : List S.R) (p : Int) : S.hB l p = S.hasB (S.set l) p := by
 rw [Bool.eq_iff_iff, S.hB_iff, S.hasB_iff, S.set_has]
theorem par_cons (n : Nat) : decide ((n + 1) % 2 = 1) = !decide (n % 2 = 1) := by
 rcases Nat.mod_two_eq_zero_or_one n with h | h
 · have : (n + 1) % 2 = 1 := by omega
   simp [h, this]
 · have : (n + 1) % 2 = 0 := by omega
   simp [h, this]
theorem evR_cons (j : Nat) (r : S.R) (l : List S.R) : evR j (r :: l) = (r.1, j) :: (r.2 + 1, j) :: evR j l := by simp [evR]
theorem evR_par (j : Nat) (k : Int) : ∀ zs : List S.R, S.Canon zs → decide (((evR j zs).filter fun p => p.1 == k && p.2 == j).length % 2 = 1) = (S.hasB zs k ^^ S.hasB zs (k - 1))
 | [], _ => by simp [evR, S.hasB]
 | r :: l, hc => by
   have ih := evR_par j k l hc.tail
   have hr := hc.head
   have hbk := fun p (h : S.hasB l p = true) => hc.behind ((S.hasB_iff l p).1 h)
   rw [evR_cons, hasB_cons, hasB_cons, List.filter_cons, List.filter_cons]
   generalize ((evR j l).filter fun p => p.1 == k && p.2 == j) = F at ih ⊢
   have hk := hbk k
   have hk1 := hbk (k - 1)
   by_cases h1 : r.1 = k
   · have h2 : ¬ r.2 + 1 = k := by omega
     have e1 : S.hasB l k = false := by
       cases h : S.hasB l k with
       | false => rfl
       | true => have := hk h; omega
     have e2 : S.hasB l (k - 1) = false := by
       cases h : S.hasB l (k - 1) with
       | false => rfl
       | true => have := hk1 h; omega
     rw [e1, e2] at ih
     have h3 : k ≤ r.2 := by omega
     have h4 : ¬ r.1 ≤ k - 1 := by omega
     rw [if_pos (by simpa using h1), if_neg (by simpa using h2), List.length_cons, par_cons, ih, e1, e2]
     rw [decide_eq_true (by omega : r.1 ≤ k), decide_eq_true h3, decide_eq_false h4]
     rfl
   · by_cases h2 : r.2 + 1 = k
     · have e1 : S.hasB l k = false := by
         cases h : S.hasB l k with
         | false => rfl
         | true => have := hk h; omega
       have e2 : S.hasB l (k - 1) = false := by
         cases h : S.hasB l (k - 1) with
         | false => rfl
         | true => have := hk1 h; omega
       rw [e1, e2] at ih
       have h3 : ¬ k ≤ r.2 := by omega
       have h4 : r.1 ≤ k - 1 := by omega
       have h5 : k - 1 ≤ r.2 := by omega
       rw [if_neg (by simpa using h1), if_pos (by simpa using h2), List.length_cons, par_cons, ih, e1, e2]
       simp [h3, h4, h5]
     · have e : (decide (r.1 ≤ k) && decide (k ≤ r.2)) = (decide (r.1 ≤ k - 1) && decide (k - 1 ≤ r.2)) := by
         by_cases h3 : r.1 ≤ k
         · by_cases h4 : k ≤ r.2
           · have : r.1 ≤ k - 1 := by omega
             have : k - 1 ≤ r.2 := by omega
             simp [*]
           · have : ¬ k - 1 ≤ r.2 := by omega
             simp [*]
         · have : ¬ r.1 ≤ k - 1 := by omega
           simp [*]
       rw [if_neg (by simpa using h1), if_neg (by simpa using h2), ih, e]
       cases hq : (decide (r.1 ≤ k - 1) && decide (k - 1 ≤ r.2)) with
       | false => simp
       | true =>
         simp only [Bool.and_eq_true, decide_eq_true_eq] at hq
         have e1 : S.hasB l k = false := by
           cases h : S.hasB l k with
           | false => rfl
           | true => have := hk h; omega
         have e2 : S.hasB l (k - 1) = false := by
           cases h : S.hasB l (k - 1) with
           | false => rfl
           | true => have := hk1 h; omega
         rw [e1, e2]
         simp
theorem evT_par (T : List (List S.R)) (k : Int) (j n : Nat) : decide (((evT T n).filter fun p => p.1 == k && p.2 == j).length % 2 = 1) = (decide (j < n) && (S.hB (T.getD j []) k ^^ S.hB (T.getD j []) (k - 1))) := by
 induction n with
 | zero => simp [evT_zero]
 | succ n ih =>
   rw [evT_succ, List.filter_append, List.length_append]
   by_cases hj : j = n
   · subst hj
     have e : ((evT T j).filter fun p => p.1 == k && p.2 == j) = [] := by
       rw [List.filter_eq_nil_iff]
       intro p hp
       have := evT_lt hp
       have : ¬ p.2 = j := by omega
       simp [this]
     rw [e, List.length_nil, Nat.zero_add, evR_par j k _ (S.set_canon _), hB_set, hB_set]
     simp
   · have e : ((evR n (S.set (T.getD n []))).filter fun p => p.1 == k && p.2 == j) = [] := by
       rw [List.filter_eq_nil_iff]
       intro p hp
       have := (evR_mem hp).1
       have : ¬ p.2 = j := by omega
       simp [this]
     rw [e, List.length_nil, Nat.add_zero, ih]
     by_cases h : j < n
     · simp [h, Nat.lt_succ_of_lt h]
     · have : ¬ j < n + 1 := by omega
       simp [h, this]
theorem mk_step (T : List (List S.R)) (k : Int) (n : Nat) : msk T k n = msk T (k - 1) n ^^^ (evN (evT T n) k).getD 0 := by
 refine Nat.eq_of_testBit_eq fun j => ?_
 rw [Nat.testBit_xor, mk_bit, mk_bit, evN_bit, evT_par]
 cases decide (j < n) <;> cases S.hB (T.getD j []) k <;> cases S.hB (T.getD j []) (k - 1) <;> rfl
theorem mk_quiet (T : List (List S.R)) (n : Nat) (a : Int) : ∀ (d : Nat), (∀ p, a < p → p ≤ a + d → evN (evT T n) p = none) → msk T (a + d) n = msk T a n
 | 0, _ => by simp
 | d + 1, h => by
   have ih := mk_quiet T n a d fun p h1 h2 => h p h1 (by push_cast; omega)
   rw [mk_step, show a + ((d + 1 : Nat) : Int) - 1 = a + (d : Int) by push_cast; omega, h (a + ((d + 1 : Nat) : Int)) (by push_cast; omega) (by omega), ih]
   simp
theorem mk_still {T : List (List S.R)} {n : Nat} {a b : Int} (hab : a ≤ b) (h : ∀ p, a < p → p ≤ b → evN (evT T n) p = none) : msk T b n = msk T a n := by
 have := mk_quiet T n a (b - a).toNat fun p h1 h2 => h p h1 (by omega)
 rwa [show a + ((b - a).toNat : Int) = b by omega] at this
theorem mk_neg (T : List (List S.R)) (n : Nat) (p : Int) (hp : p < 0) : msk T p n = 0 := by
 refine Nat.eq_of_testBit_eq fun j => ?_
 rw [mk_bit, Nat.zero_testBit]
 cases h : S.hB (T.getD j []) p with
 | false => simp
 | true => have := (S.hs_bounds ((S.hB_iff _ _).1 h)).1; omega
structure Cov (T : List (List S.R)) (n : Nat) (P : List (S.R × Nat)) (b : Int) : Prop where
 each : ∀ q ∈ P, 0 ≤ q.1.1 ∧ q.1.1 ≤ q.1.2 ∧ q.1.2 < b ∧ ∀ p, q.1.1 ≤ p → p ≤ q.1.2 → msk T p n = q.2
 rise : P.Pairwise fun x y => x.1.2 < y.1.1
 all : ∀ p, 0 ≤ p → p < b → ∃ q ∈ P, q.1.1 ≤ p ∧ p ≤ q.1.2
theorem Cov.nil (T : List (List S.R)) (n : Nat) : Cov T n [] 0 := ⟨fun q h => by simp at h, List.Pairwise.nil, fun p h1 h2 => by omega⟩
theorem Cov.snoc {T : List (List S.R)} {n : Nat} {P : List (S.R × Nat)} {b a : Int} {m : Nat} (h : Cov T n P b) (h0 : 0 ≤ b) (hab : b < a) (hm : ∀ p, b ≤ p → p ≤ a - 1 → msk T p n = m) : Cov T n (P ++ [((b, a - 1), m)]) a := by
 refine ⟨fun q hq => ?_, ?_, fun p h1 h2 => ?_⟩
 · rcases List.mem_append.1 hq with hq | hq
   · have := h.each q hq
     exact ⟨this.1, this.2.1, by omega, this.2.2.2⟩
   · obtain rfl : q = ((b, a - 1), m) := by simpa using hq
     exact ⟨h0, by simp only; omega, by simp only; omega, hm⟩
 · refine List.pairwise_append.2 ⟨h.rise, List.pairwise_singleton _ _, fun x hx y hy => ?_⟩
   obtain rfl : y = ((b, a - 1), m) := by simpa using hy
   exact (h.each x hx).2.2.1
 · by_cases hp : p < b
   · obtain ⟨q, hq, h3⟩ := h.all p h1 hp
     exact ⟨q, List.mem_append_left _ hq, h3⟩
   · exact ⟨((b, a - 1), m), by simp, by simp only; omega, by simp only; omega⟩
theorem run_cov (T : List (List S.R)) (n : Nat) (zs : List (Int × Nat)) (hz : zs.Pairwise fun x y => x.1 < y.1) (h0 : ∀ z ∈ zs, 0 ≤ z.1) (hv : ∀ z ∈ zs, (evN (evT T n) z.1).getD 0 = z.2) (c : Int) (hc : ∀ z ∈ zs, z.1 ≤ c)
   (hn : ∀ p, p ≤ c → (evN (evT T n) p).isSome = true → ∃ z ∈ zs, z.1 = p) :
   Cov T n (runP zs).2 (runP zs).1.1 ∧ 0 ≤ (runP zs).1.1 ∧ (∀ p, (runP zs).1.1 ≤ p → p ≤ c → msk T p n = (runP zs).1.2) := by
 rcases List.eq_nil_or_concat zs with rfl | ⟨zs', ⟨a, t⟩, rfl⟩
 · refine ⟨Cov.nil T n, Int.le_refl _, fun p h1 h2 => ?_⟩
   have h3 : msk T p n = msk T (-1) n := mk_still (by simp [runP] at h1; omega) fun q h4 h5 => by
     cases he : evN (evT T n) q with
     | none => rfl
     | some m =>
       obtain ⟨z, hz, _⟩ := hn q (by omega) (by rw [he]; rfl)
       simp at hz
   rw [h3, mk_neg T n (-1) (by omega)]
   rfl
 · rw [List.concat_eq_append] at hz h0 hv hc hn ⊢
   have hp := List.pairwise_append.1 hz
   have hlt : ∀ z ∈ zs', z.1 < a := fun z h => hp.2.2 z h (a, t) (by simp)
   obtain ⟨c1, c2, c3⟩ := run_cov T n zs' hp.1 (fun z h => h0 z (by simp [h])) (fun z h => hv z (by simp [h])) (a - 1) (fun z h => by have := hlt z h; omega) (fun p h1 h2 => by
     obtain ⟨z, hz1, hz2⟩ := hn p (by have := hc (a, t) (by simp); simp only at this; omega) h2
     rcases List.mem_append.1 hz1 with h | h
     · exact ⟨z, h, hz2⟩
     · obtain rfl : z = (a, t) := by simpa using h
       simp only at hz2
       omega)
   have ha0 := h0 (a, t) (by simp)
   have hac := hc (a, t) (by simp)
   have hta := hv (a, t) (by simp)
   have hfa : (runP zs').1.1 ≤ a := by
     rcases List.eq_nil_or_concat zs' with rfl | ⟨zs2, ⟨b, s⟩, rfl⟩
     · exact ha0
     · rw [List.concat_eq_append, runP_snoc]
       have := hlt (b, s) (by simp)
       simp only at this ⊢
       omega
   simp only at ha0 hac hta
   rw [runP_snoc]
   have hnext : ∀ p, a ≤ p → p ≤ c → msk T p n = (runP zs').1.2 ^^^ t := fun p h1 h2 => by
     have h3 : msk T p n = msk T a n := mk_still h1 fun q h4 h5 => by
       cases he : evN (evT T n) q with
       | none => rfl
       | some m =>
         obtain ⟨z, hz1, hz2⟩ := hn q (by omega) (by rw [he]; rfl)
         rcases List.mem_append.1 hz1 with h | h
         · have := hlt z h; omega
         · obtain rfl : z = (a, t) := by simpa using h
           simp only at hz2
           omega
     rw [h3, mk_step, hta]
     congr 1
     by_cases hfa2 : (runP zs').1.1 ≤ a - 1
     · exact c3 (a - 1) hfa2 (Int.le_refl _)
     · -- the first end, at 0
       have e0 : a = 0 ∧ zs' = [] := by
         rcases List.eq_nil_or_concat zs' with rfl | ⟨zs2, ⟨b, s⟩, rfl⟩
         · simp [runP] at hfa2
           exact ⟨by omega, rfl⟩
         · rw [List.concat_eq_append, runP_snoc] at hfa2
           have := hlt (b, s) (by simp)
           simp only at this hfa2
           omega
       obtain ⟨rfl, rfl⟩ := e0
       rw [mk_neg T n _ (by omega)]
       rfl
   refine ⟨?_, ha0, hnext⟩
   split
   · rename_i hlt2
     exact c1.snoc c2 hlt2 c3
   · have : (runP zs').1.1 = a := by omega
     rw [List.append_nil]
     rw [this] at c1
     exact c1
termination_by zs.length
decreasing_by simp_all
theorem pieces_cov (ls : List L3) (hl : ls.length ≤ 64) : Cov (TOf ls) ls.length (pieces (endsZ ls)) 1114112 := by
 have hin := endsZ_in ls hl
 have hb := runP_bounds hin
 have hsrt : (endsZ ls).Pairwise fun x y => x.1 < y.1 := by
   unfold endsZ
   exact List.pairwise_map.2 (ksOf_sorted _)
 have hv : ∀ z ∈ endsZ ls, (evN (evT (TOf ls) ls.length) z.1).getD 0 = z.2 := fun z h => by
   obtain ⟨k, _, rfl⟩ := List.mem_map.1 h
   rfl
 obtain ⟨c1, c2, c3⟩ := run_cov (TOf ls) ls.length (endsZ ls) hsrt (fun z h => (hin z h).1) hv 1114112 (fun z h => (hin z h).2.1) (fun p _ h => by
   obtain ⟨i, hi⟩ := (evN_some _ _).1 h
   exact ⟨_, List.mem_map.2 ⟨p, (ksOf_mem _ _).2 ⟨i, hi⟩, rfl⟩, rfl⟩)
 unfold pieces
 by_cases h : (runP (endsZ ls)).1.1 ≤ 1114111
 · rw [if_pos h]
   have := c1.snoc (a := 1114112) c2 (by omega) fun p h1 h2 => c3 p h1 (by omega)
   exact this
 · rw [if_neg h, List.append_nil]
   have : (runP (endsZ ls)).1.1 = 1114112 := by omega
   rw [this] at c1
   exact c1
theorem cov_ms {T : List (List S.R)} {n : Nat} {P : List (S.R × Nat)} (h : Cov T n P 1114112) (m : Nat) : m ∈ msOf P ↔ ∃ p, 0 ≤ p ∧ p ≤ 1114111 ∧ msk T p n = m := by
 rw [msOf_mem]
 constructor
 · rintro ⟨q, hq, rfl⟩
   have := h.each q hq
   exact ⟨q.1.1, this.1, by omega, this.2.2.2 _ (Int.le_refl _) this.2.1⟩
 · rintro ⟨p, h1, h2, rfl⟩
   obtain ⟨q, hq, h3, h4⟩ := h.all p h1 (by omega)
   exact ⟨q, hq, ((h.each q hq).2.2.2 p h3 h4).symm⟩
theorem cov_rise {T : List (List S.R)} {n : Nat} {P : List (S.R × Nat)} (h : Cov T n P 1114112) : (psOf (msOf P) P).Pairwise fun a b => a.1 < b.1 := by
 unfold psOf
 rw [List.pairwise_map]
 exact h.rise.imp_of_mem fun {a b} ha _ hab => by have := h.each a ha; simp only; omega
theorem cov_of {T : List (List S.R)} {n : Nat} {P : List (S.R × Nat)} (h : Cov T n P 1114112) {r q : Int}
   (hq : (1114111 < r ∧ q = -1) ∨ (r ≤ 1114111 ∧ Cnt (psOf (msOf P) P) r 0 ∧ q = -1) ∨ (r ≤ 1114111 ∧ ∃ k, ∃ hk : k < (psOf (msOf P) P).length, Cnt (psOf (msOf P) P) r (k + 1) ∧ q = ((psOf (msOf P) P)[k].2 : Int))) :
   q = if 0 ≤ r ∧ r ≤ 1114111 then ((msOf P).idxOf (msk T r n) : Int) else -1 := by
 rcases hq with ⟨h1, rfl⟩ | ⟨h1, ⟨_, _, h2⟩, rfl⟩ | ⟨h1, k, hk, ⟨_, h2, h3⟩, rfl⟩
 · rw [if_neg (by omega)]
 · by_cases h0 : 0 ≤ r
   · obtain ⟨x, hx, h3, _⟩ := h.all r h0 (by omega)
     obtain ⟨i, hi, rfl⟩ := List.getElem_of_mem hx
     have := h2 i (by simpa [psOf] using hi) (Nat.zero_le _)
     simp only [psOf, List.getElem_map] at this
     omega
   · rw [if_neg (by omega)]
 · have hk' : k < P.length := by simpa [psOf] using hk
   have hle := h2 k hk (by omega)
   simp only [psOf, List.getElem_map] at hle ⊢
   have h0 := (h.each _ (List.getElem_mem hk')).1
   rw [if_pos ⟨by omega, h1⟩]
   obtain ⟨x, hx, h4, h5⟩ := h.all r (by omega) (by omega)
   obtain ⟨i, hi, rfl⟩ := List.getElem_of_mem hx
   have hik : i = k := by
     rcases Nat.lt_trichotomy i k with h6 | h6 | h6
     · have := List.pairwise_iff_getElem.1 h.rise i k hi hk' h6
       omega
     · exact h6
     · have := h3 i (by simpa [psOf] using hi) (by omega)
       simp only [psOf, List.getElem_map] at this
       omega
   subst hik
   rw [(h.each _ (List.getElem_mem hi)).2.2.2 r h4 h5]
end Go.Proofs.YtgngaldoemopjaaGreatDoor.U
namespace Go.Proofs.YtgngaldoemopjaaGreatDoor
open Go.RowKit Go.Shelf
open E (T isS)
attribute [local go_sem] Oper.semAt_some
namespace SB
noncomputable def ofI (ls : List U.L3) (r : Int) : Int := if 0 ≤ r ∧ r ≤ 1114111 then ((U.msOf (pcs ls)).idxOf (U.msk (U.TOf ls) r ls.length) : Int) else -1
theorem and_stp {a : PA.Au} {ls : List U.L3} (hls : ls.map (·.2.2) = a.pl.map (·.1)) (m : Nat) (r : Int) : PA.behind a m &&& (U.msk (U.TOf ls) r ls.length % 2 ^ a.pl.length) = PA.stp a m r := by
 have hlen : ls.length = a.pl.length := by have := congrArg List.length hls; simpa using this
 have hT : U.TOf ls = a.pl.map (·.1) := hls
 refine Nat.eq_of_testBit_eq fun j => ?_
 unfold PA.stp
 rw [PA.orL_bit, Nat.zero_testBit, Bool.false_or, Nat.testBit_and, Nat.testBit_mod_two_pow, U.mk_bit, hlen, hT]
 by_cases hj : j < a.pl.length
 · have hB : U.S.hB ((a.pl.map (·.1)).getD j []) r = PA.hasB a r j := by
     unfold PA.hasB U.S.hB
     rw [List.getD_eq_getElem?_getD, List.getElem?_map, List.getElem?_eq_getElem hj]
     rfl
   rw [hB, decide_eq_true hj, Bool.true_and, Bool.true_and]
   rw [Bool.eq_iff_iff, List.any_eq_true]
   constructor
   · intro h
     exact ⟨j, List.mem_range.2 hj, by rw [if_pos h, Nat.testBit_two_pow_self]⟩
   · rintro ⟨i, _, h⟩
     split at h
     · rw [Nat.testBit_two_pow, decide_eq_true_eq] at h
       subst h
       assumption
     · simp at h
 · rw [decide_eq_false hj, Bool.false_and, Bool.and_false, eq_comm, List.any_eq_false]
   intro i hi
   have := List.mem_range.1 hi
   split
   · rw [Nat.testBit_two_pow]
     simp
     omega
   · simp
theorem stp_bad {a : PA.Au} {m : Nat} {r : Int} (h : ¬ (0 ≤ r ∧ r ≤ 1114111)) : PA.stp a m r = 0 := by
 refine Nat.eq_of_testBit_eq fun j => ?_
 unfold PA.stp
 rw [PA.orL_bit, Nat.zero_testBit, Bool.false_or, List.any_eq_false]
 intro i _
 have : PA.hasB a r i = false := by
   unfold PA.hasB
   cases a.pl[i]? with
   | none => rfl
   | some p =>
     show U.S.hasB (U.S.goods p.1) r = false
     cases hb : U.S.hasB (U.S.goods p.1) r with
     | false => rfl
     | true => exact absurd (U.S.hs_bounds ((U.S.hasB_iff _ _).1 hb)) h
 rw [this, Bool.and_false, if_neg (by decide)]
 simp
noncomputable def NX (a : PA.Au) (ls : List U.L3) (L : List Nat) (s r : Int) : Int := nxI a (U.msOf (pcs ls)) L s (ofI ls r)
structure SameF (a : PA.Au) (ls : List U.L3) (L : List Nat) : Prop where
 hd : L.getD 0 0 = PA.bg
 k0 : 0 < L.length
 k1 : L.length ≤ 128
 m64 : ∀ s, L.getD s 0 < 2 ^ 64
 go : ∀ s < L.length, ∀ r : Int, 0 ≤ r ∧ r ≤ 1114111 → ∃ s', s' < L.length ∧ NX a ls L (s : Int) r = (s' : Int) ∧ L.getD s' 0 = PA.stp a (L.getD s 0) r
theorem same_of {a : PA.Au} {ls : List U.L3} {k : Nat} (hg : PA.Good a) (hls : ls.map (·.2.2) = a.pl.map (·.1)) (hk : (gr (PA.behind a) (fsOf a (U.msOf (pcs ls))) k).length = k) (hj : ∀ j < k, j < (gr (PA.behind a) (fsOf a (U.msOf (pcs ls))) j).length) (hk1 : k ≤ 128) :
   SameF a ls (gr (PA.behind a) (fsOf a (U.msOf (pcs ls))) k) := by
 have hl60 := hg.len
 have hlen : ls.length = a.pl.length := by have := congrArg List.length hls; simpa using this
 have hgd : ∀ s (h : s < k), (gr (PA.behind a) (fsOf a (U.msOf (pcs ls))) k).getD s 0 = (gr (PA.behind a) (fsOf a (U.msOf (pcs ls))) k)[s]'(by omega) := fun s h => by rw [List.getD_eq_getElem?_getD, List.getElem?_eq_getElem (by omega)]; rfl
 have hpos := gr_pos (PA.behind a) (fsOf a (U.msOf (pcs ls))) k
 have hst : ∀ j, j < k → ∀ f ∈ fsOf a (U.msOf (pcs ls)), PA.behind a ((gr (PA.behind a) (fsOf a (U.msOf (pcs ls))) k).getD j 0) &&& f ∈ gr (PA.behind a) (fsOf a (U.msOf (pcs ls))) k := fun j h f hf => by rw [hgd j h]; exact gr_step hj hk h hf
 have hcov := U.pieces_cov ls (by omega)
 have hhd : (gr (PA.behind a) (fsOf a (U.msOf (pcs ls))) k).getD 0 0 = PA.bg := by rw [hgd 0 (by omega)]; exact gr_head _ _ _ hpos
 have hm64 : ∀ s, (gr (PA.behind a) (fsOf a (U.msOf (pcs ls))) k).getD s 0 < 2 ^ 64 := fun s => by
   by_cases h : s < k
   · rw [hgd s h]
     rcases gr_ok a (U.msOf (pcs ls)) k _ (List.getElem_mem (show s < (gr (PA.behind a) (fsOf a (U.msOf (pcs ls))) k).length by omega)) with e | e
     · rw [e]; decide
     · exact Nat.lt_of_lt_of_le e (Nat.pow_le_pow_right (by decide) (by omega))
   · rw [List.getD_eq_getElem?_getD, List.getElem?_eq_none (by omega)]; decide
 clear hgd hj
 generalize gr (PA.behind a) (fsOf a (U.msOf (pcs ls))) k = L at hk hpos hst hhd hm64
 refine ⟨hhd, hpos, by omega, hm64, fun s hs r hr => ?_⟩
 have hmem : U.msk (U.TOf ls) r ls.length ∈ U.msOf (pcs ls) := (U.cov_ms hcov _).2 ⟨r, hr.1, hr.2, rfl⟩
 obtain ⟨c, hc⟩ : ∃ c, (U.msOf (pcs ls)).idxOf (U.msk (U.TOf ls) r ls.length) = c := ⟨_, rfl⟩
 have hcl : c < (U.msOf (pcs ls)).length := by rw [← hc]; exact List.idxOf_lt_length_of_mem hmem
 have hce : (U.msOf (pcs ls))[c] = U.msk (U.TOf ls) r ls.length := by
   have := List.getElem_idxOf (List.idxOf_lt_length_of_mem hmem)
   simp only [hc] at this
   exact this
 have hcd : (U.msOf (pcs ls)).getD c 0 = U.msk (U.TOf ls) r ls.length := by rw [List.getD_eq_getElem?_getD, List.getElem?_eq_getElem hcl]; exact hce
 have hin : inL L (s : Int) = true := by unfold inL; simp; omega
 have hstp := and_stp hls (L.getD s 0) r
 have hmL : PA.stp a (L.getD s 0) r ∈ L := by
   rw [← hstp]
   refine hst s (by omega) _ ?_
   unfold fsOf
   exact List.mem_map_of_mem (f := fun x => x % 2 ^ a.pl.length) hmem
 refine ⟨L.idxOf (PA.stp a (L.getD s 0) r), List.idxOf_lt_length_of_mem hmL, ?_, ?_⟩
 · unfold NX ofI
   rw [if_pos hr, hc]
   unfold nxI
   rw [if_pos ⟨hin, by omega, by omega⟩, Int.toNat_natCast, Int.toNat_natCast, hcd, hstp]
 · have hlt := List.idxOf_lt_length_of_mem hmL
   rw [List.getD_eq_getElem?_getD, List.getElem?_eq_getElem hlt]
   exact List.getElem_idxOf hlt
section
variable {a : PA.Au} {ls : List U.L3} {L : List Nat}
theorem nx_neg (r : Int) : NX a ls L (-1) r = -1 := by
 unfold NX nxI inL
 rw [if_neg (by simp)]
theorem nx_bad (s : Int) {r : Int} (h : ¬ (0 ≤ r ∧ r ≤ 1114111)) : NX a ls L s r = -1 := by
 unfold NX ofI
 rw [if_neg h]
 unfold nxI
 rw [if_neg (by omega)]
theorem fold_neg : ∀ xs : List Int, xs.foldl (NX a ls L) (-1) = -1
 | [] => rfl
 | r :: xs => by rw [List.foldl_cons, nx_neg]; exact fold_neg xs
theorem acI_neg : acI a L (-1) = false := by unfold acI inL; simp
theorem acI_at {s : Nat} (h : s < L.length) : acI a L (s : Int) = PA.acc a (L.getD s 0) := by
 have hin : inL L (s : Int) = true := by unfold inL; simp; omega
 unfold acI
 rw [hin, Bool.true_and, Int.toNat_natCast]
theorem same_all (hF : SameF a ls L) : ∀ (xs : List Int) (s : Nat), s < L.length → acI a L (xs.foldl (NX a ls L) (s : Int)) = PA.acc a (xs.foldl (fun s r => PA.stp a s r) (L.getD s 0))
 | [], s, hs => acI_at hs
 | r :: xs, s, hs => by
   rw [List.foldl_cons, List.foldl_cons]
   by_cases hr : 0 ≤ r ∧ r ≤ 1114111
   · obtain ⟨s', h1, h2, h3⟩ := hF.go s hs r hr
     rw [h2, ← h3]
     exact same_all hF xs s' h1
   · rw [nx_bad _ hr, fold_neg, acI_neg, stp_bad hr, PA.fold_zero, PA.acc_zero]
theorem same_allB (hF : SameF a ls L) (xs : List Int) : acI a L (xs.foldl (NX a ls L) 0) = PA.allB a xs := by
 have := same_all hF xs 0 hF.k0
 rw [hF.hd] at this
 exact this
end
end SB
section
variable {W : World} {D : Nat} {a : PA.Au} {ls : List U.L3} {L : List Nat}
set_option maxRecDepth 100000 in
set_option maxHeartbeats 1000000 in
theorem dclassL_any (h : DAt W D a (U.msOf (pcs ls)) (U.psOf (U.msOf (pcs ls)) (pcs ls)) L) (hl : ls.length ≤ 64) (hpl : (U.psOf (U.msOf (pcs ls)) (pcs ls)).length ≤ 10000000) (r : Int) : Calls Tryz.prog 18 #[.pointer (some ⟨D, 0, none⟩), .int .i32 r] W fun e w' => e = .returned (.int .i64 (SB.ofI ls r)) ∧ Below W.heap.size W w' := by
 obtain ⟨sets, so, sc, hc, _, _⟩ := h
 have hcov := U.pieces_cov ls hl
 have ho := U.cof_any hc hpl (U.cov_rise hcov) r
 have HV := hide (fun q hq => U.cov_of hcov (r := r) (q := q) hq)
 clear hc hcov hpl
 go_enter Tryz.func18, Tryz.ntmps18
 go_wp2_with fail
 refine ho.mono ?_
 rintro e w1 ⟨q, rfl, hb, hq⟩
 have HE : Hid (SB.ofI ls r = q) := hide (HV.out q hq).symm
 clear ho hq HV
 go_wp2
 go_ret
 exact ⟨by rw [HE.out]; rfl, hb⟩
set_option maxRecDepth 100000 in
set_option maxHeartbeats 1000000 in
theorem dstepL_any (h : DAt W D a (U.msOf (pcs ls)) (U.psOf (U.msOf (pcs ls)) (pcs ls)) L) (hl : ls.length ≤ 64) (hpl : (U.psOf (U.msOf (pcs ls)) (pcs ls)).length ≤ 10000000) (s r : Int) : Calls Tryz.prog 17 #[.pointer (some ⟨D, 0, none⟩), .int .i64 s, .int .i32 r] W fun e w' => e = .returned (.int .i64 (SB.NX a ls L s r)) ∧ Below W.heap.size W w' := by
 have h1 := dclassL_any h hl hpl r
 have h2 := fun W' hb => dnext_any (h.later (W' := W') hb) s (SB.ofI ls r)
 have HN : Hid (SB.NX a ls L s r = SB.nxI a (U.msOf (pcs ls)) L s (SB.ofI ls r)) := hide rfl
 generalize SB.ofI ls r = c at *
 clear h hpl
 go_enter Tryz.func17, Tryz.ntmps17
 go_wp2_with fail
 refine h1.mono ?_
 rintro e w1 ⟨rfl, hb⟩
 have h3 := h2 w1 hb
 obtain ⟨x, hx⟩ : ∃ x, SB.nxI a (U.msOf (pcs ls)) L s c = x := ⟨_, rfl⟩
 rw [hx] at h3
 have HX := hide hx
 clear hx
 clear h1 h2
 go_wp2_with fail
 refine h3.mono ?_
 rintro e w2 ⟨rfl, rfl⟩
 clear h3
 go_wp2
 go_ret
 exact ⟨by rw [HN.out, HX.out]; rfl, hb⟩
set_option maxRecDepth 100000 in
set_option maxHeartbeats 2000000 in
theorem sall_any (h : DAt W D a (U.msOf (pcs ls)) (U.psOf (U.msOf (pcs ls)) (pcs ls)) L) (hF : SB.SameF a ls L) (hl : ls.length ≤ 64) (hpl : (U.psOf (U.msOf (pcs ls)) (pcs ls)).length ≤ 10000000) (ao : Option Addr) (cap : Nat) (xs : List Int) (hx : RdC32 W ao xs) (hlen : xs.length ≤ 1000000) :
   Calls Tryz.prog 20 #[.pointer (some ⟨D, 0, none⟩), .slice ao xs.length cap] W fun e w' => e = .returned (.bool (PA.allB a xs)) ∧ Below W.heap.size W w' := by
 have es := elemSize39
 have hst := fun (W' : World) (hb : Below W.heap.size W W') (s r : Int) => dstepL_any (h.later hb) hl hpl s r
 have hac := fun (W' : World) (hb : Below W.heap.size W W') (s : Int) => dacc_any (h.later hb) s
 have HA := hide (SB.same_allB hF xs)
 clear h hF hl hpl
 go_enter Tryz.func20, Tryz.ntmps20
 go_wp2
 go_loopw [5, 10] (fun p u wr => ∃ (s : Int) (i : Nat), p = .int .i64 s ∧ u = .int .i64 (i : Int) ∧ i ≤ xs.length ∧ Hid (s = (xs.take i).foldl (SB.NX a ls L) 0) ∧ Below W.heap.size W wr) (fun _ u _ => xs.length - (intOf u).toNat)
 case atStart => exact ⟨0, 0, rfl, rfl, Nat.zero_le _, hide rfl, Below.refl _ _⟩
 case round =>
   obtain ⟨s, i, rfl, rfl, hi, HS, hB⟩ := hrel
   by_cases hlti : i < xs.length
   · obtain ⟨b, off, rfl, hc⟩ := hx.later hB i hlti
     have HS2 : Hid (SB.NX a ls L s xs[i] = (xs.take (i + 1)).foldl (SB.NX a ls L) 0) := hide (by rw [List.take_succ_eq_append_getElem hlti, List.foldl_append, ← HS.out]; rfl)
     have hcall := hst wr hB s xs[i]
     generalize xs[i] = r at *
     generalize SB.NX a ls L s r = s2 at *
     clear hst hac hx HS
     go_wp2_with fail
     refine hcall.mono ?_
     rintro e W2 ⟨rfl, hb2⟩
     have B2 := nx hB hb2
     clear hcall hb2 hc hB
     go_wp2
     exact ⟨⟨s2, i + 1, rfl, by go_num, by omega, HS2, B2⟩, by simp [intOf]; omega⟩
   · obtain rfl : i = xs.length := by omega
     have hcall := hac wr hB s
     have HE : Hid (SB.acI a L s = PA.allB a xs) := hide (by
       have h1 := HS.out
       rw [List.take_length] at h1
       rw [h1]; exact HA.out)
     generalize SB.acI a L s = b at *
     clear hst hac hx HS
     go_wp2_with fail
     refine hcall.mono ?_
     rintro e W2 ⟨rfl, rfl⟩
     go_wp2
     go_ret
     exact ⟨by rw [HE.out] <;> rfl, hB⟩
end
end Go.Proofs.YtgngaldoemopjaaGreatDoor
namespace Go.Proofs.YtgngaldoemopjaaGreatDoor
open Go.RowKit Go.Shelf
open E (T isS)
namespace PA
theorem behind_pow {a : Au} (hl : a.pl.length ≤ 60) {i : Nat} (hi : i < a.pl.length) : behind a (2 ^ i) = fol a i := by
 refine Nat.eq_of_testBit_eq fun j => ?_
 unfold behind
 rw [orL_bit, Nat.testBit_two_pow, decide_eq_false (show ¬ i = 63 by omega), if_neg (by decide), Nat.zero_testBit, Bool.false_or, Bool.eq_iff_iff, List.any_eq_true]
 constructor
 · rintro ⟨q, _, h⟩
   rw [Nat.testBit_two_pow] at h
   by_cases e : i = q
   · subst e; simpa using h
   · rw [decide_eq_false e, if_neg (by decide)] at h
     simp at h
 · intro h
   exact ⟨i, List.mem_range.2 hi, by rw [Nat.testBit_two_pow, decide_eq_true rfl, if_pos rfl]; exact h⟩
theorem plW_len (cs : List Int) : (plW cs).length = cs.length := by unfold plW; rw [List.length_mapIdx]
theorem plW_at {cs : List Int} {i : Nat} (h : i < cs.length) : (plW cs)[i]? = some ([(cs[i], cs[i])], if i + 1 < cs.length then 2 ^ (i + 1) else 0) := by
 unfold plW
 rw [List.getElem?_mapIdx, List.getElem?_eq_getElem h]
 rfl
theorem plW_fol {cs : List Int} {x : En} {i : Nat} (h : i < cs.length) : fol ⟨plW cs, x⟩ i = if i + 1 < cs.length then 2 ^ (i + 1) else 0 := by
 unfold fol
 rw [plW_at h]
 rfl
end PA
namespace SB
theorem msOf_head {P : List (U.S.R × Nat)} {q : U.S.R × Nat} : ∃ r, U.msOf (q :: P) = q.2 :: r := by
 have key : ∀ (l : List (U.S.R × Nat)) (m : Nat) (ms : List Nat), ∃ r, l.foldl (fun ms p => if p.2 ∈ ms then ms else ms ++ [p.2]) (m :: ms) = m :: r := by
   intro l
   induction l with
   | nil => exact fun m ms => ⟨ms, rfl⟩
   | cons p l ih =>
     intro m ms
     rw [List.foldl_cons]
     split
     · exact ih m ms
     · exact ih m (ms ++ [p.2])
 exact key P q.2 []
theorem word_fs {cs : List Int} {ls : List U.L3} (hcs : ∀ c ∈ cs, 0 < c ∧ c ≤ 1114111) (h60 : cs.length ≤ 60) (hls : ls.map (·.2.2) = (PA.plW cs).map (·.1)) (x : PA.En) :
   (∃ r, fsOf ⟨PA.plW cs, x⟩ (U.msOf (pcs ls)) = 0 :: r) ∧ ∀ i < cs.length, ∃ f ∈ fsOf ⟨PA.plW cs, x⟩ (U.msOf (pcs ls)), f.testBit i = true := by
 have hlen : ls.length = cs.length := by have := congrArg List.length hls; simpa [PA.plW_len] using this
 have hcov := U.pieces_cov ls (by omega)
 have hT : ∀ i (h : i < cs.length), (U.TOf ls).getD i [] = [(cs[i], cs[i])] := fun i h => by
   rw [show U.TOf ls = (PA.plW cs).map (·.1) from hls, List.getD_eq_getElem?_getD, List.getElem?_map, PA.plW_at h]
   rfl
 have hB : ∀ i (h : i < cs.length) (r : Int), U.S.hB ((U.TOf ls).getD i []) r = decide (cs[i] = r) := fun i h r => by
   have hc := hcs cs[i] (List.getElem_mem h)
   rw [hT i h]
   have hg : U.S.goods [(cs[i], cs[i])] = [(cs[i], cs[i])] := (U.S.canon_one (by unfold U.S.good; simp; omega)).goods
   unfold U.S.hB
   rw [hg]
   unfold U.S.hasB
   rw [Bool.eq_iff_iff]
   simp
   omega
 refine ⟨?_, fun i hi => ?_⟩
 · obtain ⟨q, hq, h1, h2⟩ := hcov.all 0 (by omega) (by omega)
   have hpc : U.pieces (U.endsZ ls) = pcs ls := rfl
   rw [hpc] at hq hcov
   cases hP : pcs ls with
   | nil => rw [hP] at hq; cases hq
   | cons p P =>
     rw [hP] at hq hcov
     have hp : q = p := by
       rcases List.mem_cons.1 hq with e | e
       · exact e
       · have := (List.pairwise_cons.1 hcov.rise).1 q e
         have hp0 := (hcov.each p List.mem_cons_self).1
         have hp1 := (hcov.each p List.mem_cons_self).2.1
         omega
     subst hp
     obtain ⟨r, hr⟩ := msOf_head (P := P) (q := q)
     have hz : q.2 = 0 := by
       rw [← (hcov.each q List.mem_cons_self).2.2.2 0 h1 h2]
       refine Nat.eq_of_testBit_eq fun j => ?_
       rw [U.mk_bit, Nat.zero_testBit]
       by_cases hj : j < cs.length
       · rw [hB j hj]
         have := (hcs cs[j] (List.getElem_mem hj)).1
         rw [decide_eq_false (show ¬ cs[j] = 0 by omega), Bool.and_false]
       · rw [decide_eq_false (by omega), Bool.false_and]
     unfold fsOf
     rw [hr, hz]
     exact ⟨_, by rw [List.map_cons, Nat.zero_mod]⟩
 · have hc := hcs cs[i] (List.getElem_mem hi)
   have hm : U.msk (U.TOf ls) cs[i] ls.length ∈ U.msOf (pcs ls) := (U.cov_ms hcov _).2 ⟨cs[i], by omega, by omega, rfl⟩
   refine ⟨U.msk (U.TOf ls) cs[i] ls.length % 2 ^ (PA.plW cs).length, List.mem_map_of_mem (f := fun x => x % 2 ^ (PA.plW cs).length) hm, ?_⟩
   rw [Nat.testBit_mod_two_pow, PA.plW_len, U.mk_bit, hB i hi, decide_eq_true hi, decide_eq_true (show i < ls.length by omega), decide_eq_true rfl]
   rfl
theorem word_gr {cs : List Int} {ls : List U.L3} {t : T} (hw : PA.IsW cs t) (hcs : ∀ c ∈ cs, 0 < c ∧ c ≤ 1114111) (h60 : cs.length ≤ 60) (hls : ls.map (·.2.2) = (PA.auto t).pl.map (·.1)) :
   ∀ k, 1 ≤ k → gr (PA.behind (PA.auto t)) (fsOf (PA.auto t) (U.msOf (pcs ls))) k = wd (min cs.length (max 1 (k - 1))) := by
 rw [PA.isW_auto hw] at hls ⊢
 obtain ⟨h1, h2⟩ := word_fs hcs h60 hls ⟨1, 2 ^ (cs.length - 1), false⟩
 refine gr_word (PA.isW_len hw) h60 ?_ (PA.behind_zero _) (fun i hi => ?_) h1 h2
 · exact PA.behind_bg (by rw [PA.plW_len]; exact h60)
 · rw [PA.behind_pow (by rw [PA.plW_len]; exact h60) (by rw [PA.plW_len]; exact hi), PA.plW_fol hi]
end SB
end Go.Proofs.YtgngaldoemopjaaGreatDoor
namespace Go.Proofs.YtgngaldoemopjaaGreatDoor
open Go.RowKit Go.Shelf
open E (T isS)
namespace SB
theorem word_bit {cs : List Int} {ls : List U.L3} (hcs : ∀ c ∈ cs, 0 < c ∧ c ≤ 1114111) (hls : ls.map (·.2.2) = (PA.plW cs).map (·.1)) (r : Int) {i : Nat} (h : i < cs.length) : (U.msk (U.TOf ls) r ls.length).testBit i = decide (cs[i] = r) := by
 have hlen : ls.length = cs.length := by have := congrArg List.length hls; simpa [PA.plW_len] using this
 have hc := hcs cs[i] (List.getElem_mem h)
 have hT : (U.TOf ls).getD i [] = [(cs[i], cs[i])] := by
   rw [show U.TOf ls = (PA.plW cs).map (·.1) from hls, List.getD_eq_getElem?_getD, List.getElem?_map, PA.plW_at h]
   rfl
 rw [U.mk_bit, hT, decide_eq_true (show i < ls.length by omega), Bool.true_and]
 have hg : U.S.goods [(cs[i], cs[i])] = [(cs[i], cs[i])] := (U.S.canon_one (by unfold U.S.good; simp; omega)).goods
 unfold U.S.hB
 rw [hg]
 unfold U.S.hasB
 rw [Bool.eq_iff_iff]
 simp
 omega
theorem word_none {cs : List Int} {ls : List U.L3} (hcs : ∀ c ∈ cs, 0 < c ∧ c ≤ 1114111) (hls : ls.map (·.2.2) = (PA.plW cs).map (·.1)) {r : Int} (h : r ∉ cs) : U.msk (U.TOf ls) r ls.length = 0 := by
 have hlen : ls.length = cs.length := by have := congrArg List.length hls; simpa [PA.plW_len] using this
 refine Nat.eq_of_testBit_eq fun j => ?_
 rw [Nat.zero_testBit]
 by_cases hj : j < cs.length
 · rw [word_bit hcs hls r hj, decide_eq_false]
   rintro rfl
   exact h (List.getElem_mem hj)
 · rw [U.mk_bit, decide_eq_false (by omega), Bool.false_and]
theorem word_ms {cs : List Int} {ls : List U.L3} (hcs : ∀ c ∈ cs, 0 < c ∧ c ≤ 1114111) (h60 : cs.length ≤ 60) (hls : ls.map (·.2.2) = (PA.plW cs).map (·.1)) {D : List Int} (hD : D.Nodup) (hm : ∀ c, c ∈ D ↔ c ∈ cs) : (U.msOf (pcs ls)).length = D.length + 1 := by
 have hlen : ls.length = cs.length := by have := congrArg List.length hls; simpa [PA.plW_len] using this
 have hcov := U.pieces_cov ls (by omega)
 have hp : (U.msOf (pcs ls)).Perm (0 :: D.map fun c => U.msk (U.TOf ls) c ls.length) := by
   refine (List.perm_ext_iff_of_nodup (U.msOf_nodup _) ?_).2 fun m => ?_
   · refine List.nodup_cons.2 ⟨fun h0 => ?_, ?_⟩
     · obtain ⟨c, hc, e⟩ := List.mem_map.1 h0
       obtain ⟨i, hi, rfl⟩ := List.mem_iff_getElem.1 ((hm c).1 hc)
       have := word_bit hcs hls cs[i] hi
       rw [e, Nat.zero_testBit, decide_eq_true rfl] at this
       cases this
     · refine List.pairwise_map.2 (hD.imp_of_mem ?_)
       intro a b ha _ hab e
       obtain ⟨i, hi, rfl⟩ := List.mem_iff_getElem.1 ((hm a).1 ha)
       have h1 := word_bit hcs hls cs[i] hi
       rw [e, word_bit hcs hls b hi, decide_eq_true (show cs[i] = cs[i] from rfl)] at h1
       exact hab (by simpa using h1)
   · rw [show (m ∈ U.msOf (pcs ls)) = (m ∈ U.msOf (U.pieces (U.endsZ ls))) from rfl, U.cov_ms hcov, List.mem_cons, List.mem_map]
     constructor
     · rintro ⟨p, _, _, rfl⟩
       by_cases h : p ∈ cs
       · exact .inr ⟨p, (hm p).2 h, rfl⟩
       · exact .inl (word_none hcs hls h)
     · rintro (rfl | ⟨c, hc, rfl⟩)
       · exact ⟨0, by omega, by omega, word_none hcs hls fun h => by have := (hcs 0 h).1; omega⟩
       · have := hcs c ((hm c).1 hc)
         exact ⟨c, by omega, by omega, rfl⟩
 rw [hp.length_eq, List.length_cons, List.length_map]
end SB
end Go.Proofs.YtgngaldoemopjaaGreatDoor
namespace Go.Proofs.YtgngaldoemopjaaGreatDoor
open Go.RowKit Go.Shelf
open E (T isS)
namespace PA
theorem hasB_word {cs : List Int} (hcs : ∀ c ∈ cs, 0 < c ∧ c ≤ 1114111) (x : En) (r : Int) {i : Nat} (h : i < cs.length) : hasB ⟨plW cs, x⟩ r i = decide (cs[i] = r) := by
 have hc := hcs cs[i] (List.getElem_mem h)
 unfold hasB
 rw [plW_at h]
 have hg : U.S.goods [(cs[i], cs[i])] = [(cs[i], cs[i])] := (U.S.canon_one (by unfold U.S.good; simp; omega)).goods
 show U.S.hasB (U.S.goods [(cs[i], cs[i])]) r = _
 rw [hg]
 unfold U.S.hasB
 rw [Bool.eq_iff_iff]
 simp
 omega
theorem stp_one {cs : List Int} (hcs : ∀ c ∈ cs, 0 < c ∧ c ≤ 1114111) (x : En) (m : Nat) (r : Int) {i : Nat} (h : i < cs.length) (hb : behind ⟨plW cs, x⟩ m = 2 ^ i) : stp ⟨plW cs, x⟩ m r = if cs[i] = r then 2 ^ i else 0 := by
 refine Nat.eq_of_testBit_eq fun j => ?_
 unfold stp
 rw [hb, orL_bit, Nat.zero_testBit, Bool.false_or, plW_len, Bool.eq_iff_iff, List.any_eq_true]
 constructor
 · rintro ⟨q, hq, hj⟩
   rw [Nat.testBit_two_pow] at hj
   by_cases e : i = q
   · subst e
     rw [decide_eq_true rfl, Bool.true_and, hasB_word hcs x r h] at hj
     by_cases e2 : cs[i] = r
     · rw [decide_eq_true e2, if_pos rfl] at hj
       rw [if_pos e2]; exact hj
     · rw [decide_eq_false e2, if_neg (by decide)] at hj
       simp at hj
   · rw [decide_eq_false e, Bool.false_and, if_neg (by decide)] at hj
     simp at hj
 · intro hj
   by_cases e2 : cs[i] = r
   · rw [if_pos e2] at hj
     exact ⟨i, List.mem_range.2 h, by rw [Nat.testBit_two_pow, decide_eq_true rfl, Bool.true_and, hasB_word hcs x r h, decide_eq_true e2, if_pos rfl]; exact hj⟩
   · rw [if_neg e2] at hj
     simp at hj
theorem stp_end {a : Au} {m : Nat} (r : Int) (hb : behind a m = 0) : stp a m r = 0 := by
 refine Nat.eq_of_testBit_eq fun j => ?_
 unfold stp
 rw [hb, orL_bit, Nat.zero_testBit, Bool.false_or, List.any_eq_false]
 intro i _
 simp
section
variable {cs : List Int} (hcs : ∀ c ∈ cs, 0 < c ∧ c ≤ 1114111) (h60 : cs.length ≤ 60)
include hcs h60
theorem word_fold : ∀ i, i + 1 ≤ cs.length → (cs.take (i + 1)).foldl (fun s r => stp ⟨plW cs, ⟨1, 2 ^ (cs.length - 1), false⟩⟩ s r) bg = 2 ^ i
 | 0, h => by
   obtain ⟨c, r, rfl⟩ : ∃ c r, cs = c :: r := by cases cs with
     | nil => simp at h
     | cons c r => exact ⟨c, r, rfl⟩
   show stp _ bg c = _
   rw [stp_one hcs _ bg c (i := 0) h (by rw [behind_bg (by rw [plW_len]; exact h60)])]
   exact if_pos rfl
 | i + 1, h => by
   rw [List.take_succ_eq_append_getElem (show i + 1 < cs.length by omega), List.foldl_append, word_fold i (by omega)]
   show stp _ (2 ^ i) cs[i + 1] = _
   rw [stp_one hcs _ (2 ^ i) cs[i + 1] (i := i + 1) (by omega) (by rw [behind_pow (by rw [plW_len]; exact h60) (by rw [plW_len]; omega), plW_fol (by omega), if_pos (by omega)])]
   exact if_pos rfl
theorem word_all (h1 : 1 ≤ cs.length) : allB ⟨plW cs, ⟨1, 2 ^ (cs.length - 1), false⟩⟩ cs = true := by
 have h := word_fold hcs h60 (cs.length - 1) (by omega)
 rw [show cs.length - 1 + 1 = cs.length by omega, List.take_length] at h
 unfold allB
 rw [h]
 unfold acc
 rw [Nat.and_self, decide_eq_true (by have := Nat.two_pow_pos (cs.length - 1); omega), Bool.true_or]
theorem word_part {i : Nat} (h : i < cs.length) : allB ⟨plW cs, ⟨1, 2 ^ (cs.length - 1), false⟩⟩ (cs.take i) = false := by
 unfold allB
 cases i with
 | zero =>
   rw [List.take_zero, List.foldl_nil]
   unfold acc
   have e : bg &&& 2 ^ (cs.length - 1) = 0 := by
     rw [Nat.and_comm, SB.and_pow, show bg = 2 ^ 63 from rfl, Nat.testBit_two_pow, decide_eq_false (by omega), if_neg (by decide)]
   show (decide (bg &&& 2 ^ (cs.length - 1) ≠ 0) || (bg.testBit 63 && false)) = false
   rw [e]
   simp
 | succ i =>
   rw [word_fold hcs h60 i (by omega)]
   unfold acc
   have e : 2 ^ i &&& 2 ^ (cs.length - 1) = 0 := by
     rw [SB.and_pow, Nat.testBit_two_pow, decide_eq_false (by omega), if_neg (by decide)]
   show (decide (2 ^ i &&& 2 ^ (cs.length - 1) ≠ 0) || ((2 ^ i).testBit 63 && false)) = false
   rw [e]
   simp
theorem word_more (h1 : 1 ≤ cs.length) (r : Int) : allB ⟨plW cs, ⟨1, 2 ^ (cs.length - 1), false⟩⟩ (cs ++ [r]) = false := by
 have h := word_fold hcs h60 (cs.length - 1) (by omega)
 rw [show cs.length - 1 + 1 = cs.length by omega, List.take_length] at h
 unfold allB
 rw [List.foldl_append, h]
 show acc _ (stp _ (2 ^ (cs.length - 1)) r) = false
 rw [stp_end r (by rw [behind_pow (by rw [plW_len]; exact h60) (by rw [plW_len]; omega), plW_fol (by omega), if_neg (by omega)])]
 exact acc_zero _
end
end PA
end Go.Proofs.YtgngaldoemopjaaGreatDoor
