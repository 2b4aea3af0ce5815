/- Joined: Mtw. -/
import Derived.Test.YtemanednddhfaaaGreatDoorMKnh
namespace Go.Proofs.YtemanednddhfaaaGreatDoor
open Go.RowKit Go.Shelf
open E (T Rx rxOf Vp)
attribute [local go_sem] Oper.semAt_some
theorem Reg.eqTT8 {w : World} {ρ : Operand → Value} {o : Oper} {x y : Operand} {m : Bool} (hop : o.op = .binOp .eql 4 x y 4) (hx : ρ x = .bool m) (hy : ρ y = .bool m) : (execOp ρ o).run Tryz.prog w = .ok (.value (.bool true)) w := by
 obtain ⟨dst, op, type, pos, after, guard⟩ := o
 simp only at hop
 subst hop
 cases m
 · simp only [execOp, hx, hy]
   kernel_rfl
 · simp only [execOp, hx, hy]
   kernel_rfl
theorem lst_zero : E.lst 0 = [] := by simp [E.lst]
theorem endP_lst {t : T} {xs zs : List Int} {f : Int} (hn : xs.length ≤ 60) (h : EndP t xs f zs) : zs = E.lst (rE t xs f) := by
 rcases h with ⟨h, rfl⟩ | ⟨h, rfl⟩
 · obtain ⟨k, rfl⟩ := Int.eq_ofNat_of_zero_le h.1
   rw [rE_yes h, Int.toNat_natCast]
   exact ends_eq (E.kd_of t h.2.2.vp) hn (by omega)
 · rw [rE_no h, lst_zero]
theorem begP_lst {t : T} {xs zs : List Int} {f : Int} (hn : xs.length ≤ 60) (h : BegP t xs f zs) : zs = E.lst (rB t xs f (rN xs.length f)) := by
 rcases h with ⟨h, rfl⟩ | ⟨h, rfl⟩
 · obtain ⟨k, rfl⟩ := Int.eq_ofNat_of_zero_le h.1
   have hk : k ≤ xs.length := by omega
   rw [show rN xs.length (k : Int) = k + 1 by unfold rN; rw [if_neg (by omega), Int.toNat_natCast]; omega, rB_eq hk h.2.2 _ (by omega), Int.toNat_natCast]
   exact begs_eq (E.kd_of t h.2.2.vp) hn hk
 · by_cases h0 : f < 0
   · rw [show rN xs.length f = 0 from if_pos h0]
     exact lst_zero.symm
   · rw [rB_no (fun h2 => h ⟨by omega, h2⟩), lst_zero]
open Classical in
noncomputable def decB (p : Prop) : Bool := decide p
open Classical in
theorem decB_iff (p : Prop) : decB p = true ↔ p := by unfold decB; exact decide_eq_true_iff
theorem decB_no {p : Prop} (h : ¬ p) : decB p = false := by
 cases hd : decB p with
 | false => rfl
 | true => exact absurd ((decB_iff p).1 hd) h
theorem told_dec {p : Prop} {e : Ending} (h : U.Told p e) : e = .returned (.bool (decB p)) := by
 obtain ⟨b, rfl, hb⟩ := h
 have h2 : b = decB p := by rw [Bool.eq_iff_iff, hb, decB_iff]
 rw [h2]
theorem told_eqI {xs : List Int} {e : Ending} (h : U.Told (xs = xs) e) : e = .returned (.bool true) := by
 obtain ⟨b, rfl, hb⟩ := h
 rw [hb.2 rfl]
set_option maxRecDepth 100000 in
set_option maxHeartbeats 4000000 in
theorem few29 (t : T) (hF : InT t) (d : ND) (w : World) (hT : TR w (fun _ => True) t d.v) :
   Calls Tryz.prog 29 #[d.v] w fun e w' => e = .returned (.bool (decide (sz t ≤ 200))) ∧ Below w.heap.size w w' := by
 have b1 := al1 w (.cells #[.int .i64 d.k, .int .i64 d.a, .slice d.sp d.sl d.sc, .string d.n, .slice d.kp d.kl d.kc] 26)
 have n1 := heap_alloc_new w (.cells #[.int .i64 d.k, .int .i64 d.a, .slice d.sp d.sl d.sc, .string d.n, .slice d.kp d.kl d.kc] 26)
 have s1 : (w.alloc (.cells #[.int .i64 d.k, .int .i64 d.a, .slice d.sp d.sl d.sc, .string d.n, .slice d.kp d.kl d.kc] 26)).heap.size = w.heap.size + 1 := by simp
 obtain ⟨X, hX⟩ : ∃ X, w.alloc (.cells #[.int .i64 d.k, .int .i64 d.a, .slice d.sp d.sl d.sc, .string d.n, .slice d.kp d.kl d.kc] 26) = X := ⟨_, rfl⟩
 rw [hX] at b1 n1 s1
 have hc := count_any t hF d X 200 (by decide) (TR.later (fun k hk => b1.block k hk) _ hT)
 obtain ⟨q0, q1, q2, q3, q4⟩ := cells_five n1
 have HE : Hid (decide (((min (sz t) (200 + 1) : Nat) : Int) ≤ 200) = decide (sz t ≤ 200)) := hide (by
   rw [Bool.eq_iff_iff, decide_eq_true_eq, decide_eq_true_eq]
   omega)
 obtain ⟨sc, hsc⟩ : ∃ sc, min (sz t) (200 + 1) = sc := ⟨_, rfl⟩
 rw [hsc] at hc HE
 unfold ND.v at hc ⊢
 rw [show ((200 : Nat) : Int) = 200 from rfl] at hc
 clear hT hsc
 go_enter Tryz.func29, Tryz.ntmps29
 go_wp2_with fail
 refine hc.mono ?_
 rintro e W1 ⟨rfl, hb1⟩
 have B1 := nx b1 hb1
 clear hc hb1 q0 q1 q2 q3 q4
 go_wp2
 go_ret
 exact ⟨by rw [← HE.out]; rfl, B1⟩
set_option maxRecDepth 100000 in
set_option maxHeartbeats 8000000 in
theorem mtells_any (t : T) (hF : InT t) (d : ND) (ao : Option Addr) (cap : Nat) (xs : List Int) (hcap : xs.length ≤ cap) (f : Int) (w : World) (ht : Tabs w) (hT : TR w (fun _ => True) t d.v) (hx : RdC32 w ao xs) :
   Calls Tryz.prog 8 #[d.v, .slice ao xs.length cap, .int .i64 f] w fun e w' => e = .returned (.bool true) ∧ Below w.heap.size w w' := by
 have b1 := al1 w (.cells #[.int .i64 d.k, .int .i64 d.a, .slice d.sp d.sl d.sc, .string d.n, .slice d.kp d.kl d.kc] 26)
 have n1 := heap_alloc_new w (.cells #[.int .i64 d.k, .int .i64 d.a, .slice d.sp d.sl d.sc, .string d.n, .slice d.kp d.kl d.kc] 26)
 have s1 : (w.alloc (.cells #[.int .i64 d.k, .int .i64 d.a, .slice d.sp d.sl d.sc, .string d.n, .slice d.kp d.kl d.kc] 26)).heap.size = w.heap.size + 1 := by simp
 obtain ⟨X, hX⟩ : ∃ X, w.alloc (.cells #[.int .i64 d.k, .int .i64 d.a, .slice d.sp d.sl d.sc, .string d.n, .slice d.kp d.kl d.kc] 26) = X := ⟨_, rfl⟩
 rw [hX] at b1 n1 s1
 have HL := hide (fun W (hb : Below w.heap.size w W) => (⟨ht.later hb, TR.later (fun k hk => hb.block k hk) _ hT, hx.later hb⟩ : Tabs W ∧ TR W (fun _ => True) t d.v ∧ RdC32 W ao xs))
 have hk := known8_any X (HL.out X b1).1
 clear ht hT hx
 unfold ND.v
 go_enter Tryz.func8, Tryz.ntmps8
 go_wp2_with fail
 refine hk.mono ?_
 rintro e W1 ⟨rfl, hb1⟩
 have B1 := nx b1 hb1
 have m1 := (hb1.block _ (by omega)).trans n1
 have hc := few29 t hF d W1 (HL.out W1 B1).2.1
 obtain ⟨q0, q1, q2, q3, q4⟩ := cells_five m1
 have z1 : w.heap.size + 1 ≤ W1.heap.size := by have := hb1.size; omega
 unfold ND.v at hc
 clear hk hb1 n1 s1 b1
 obtain ⟨fb, hfb⟩ : ∃ fb, decide (sz t ≤ 200) = fb := ⟨_, rfl⟩
 rw [hfb] at hc
 have HFB := hide hfb
 clear hfb
 go_wp2_with fail
 refine hc.mono ?_
 rintro e W2 ⟨rfl, hb2⟩
 have B2 := nx B1 hb2
 have m2 := (hb2.block _ (by omega)).trans m1
 have z2 : w.heap.size + 1 ≤ W2.heap.size := Nat.le_trans z1 hb2.size
 clear hc hb2 m1 z1 B1 q0 q1 q2 q3 q4 hX
 cases fb with
 | false =>
   go_wp2
   go_ret
   exact ⟨rfl, B2⟩
 | true =>
 by_cases hlong : 30 < xs.length
 · go_wp2
   go_ret
   exact ⟨rfl, B2⟩
 have hn60 : xs.length ≤ 60 := by omega
 have hps : (E.pre t t).length ≤ 1000000 := by
   have h1 := of_decide_eq_true HFB.out
   have h2 : sz t = (E.pre t t).length := rfl
   omega
 have hI := isR_any t hF d W2 (HL.out W2 B2).2.1
 obtain ⟨q0, q1, q2, q3, q4⟩ := cells_five m2
 unfold ND.v at hI
 go_wp2_with fail
 refine hI.mono ?_
 rintro e W3 ⟨⟨b, rfl, hbI⟩, hb3⟩
 have B3 := nx B2 hb3
 have m3 := (hb3.block w.heap.size (by omega)).trans m2
 have HBI := hide hbI
 clear hI hb3 hbI q0 q1 q2 q3 q4 m2 z2 B2
 cases b with
 | false =>
   have hnp : ¬ E.PlainP t := fun h => by have := HBI.out.2 h.1; cases this
   have HNN : Hid (decB (AllP t []) = false) := hide (decB_no fun h => hnp h.1)
   obtain ⟨W4, hW4⟩ : ∃ W4, W3 = W4 := ⟨_, rfl⟩
   subst hW4
   have B4 := B3
   have m4 := m3
   clear hnp
   have KX : ∀ W, Below W3.heap.size W3 W → W.heap[w.heap.size]? = some (.cells #[.int .i64 d.k, .int .i64 d.a, .slice d.sp d.sl d.sc, .string d.n, .slice d.kp d.kl d.kc] 26) := fun W hb => (hb.block _ (Array.getElem?_eq_some_iff.1 m4).1).trans m4
   have c33 := fun W (hb : Below W3.heap.size W3 W) => endsM_any t d W (HL.out W (nx B4 hb)).1 (HL.out W (nx B4 hb)).2.1 hps hF ao cap xs (HL.out W (nx B4 hb)).2.2 (by omega) hcap f
   have c35 := fun W (hb : Below W3.heap.size W3 W) => ends35 t hF hps d f (ao := ao) (cap := cap) hn60 W (HL.out W (nx B4 hb)).2.2 (HL.out W (nx B4 hb)).2.1
   have c36 := fun W (hb : Below W3.heap.size W3 W) => begsM_any t d W (HL.out W (nx B4 hb)).1 (HL.out W (nx B4 hb)).2.1 hps hF ao cap xs (HL.out W (nx B4 hb)).2.2 (by omega) hcap f
   have c37 := fun W (hb : Below W3.heap.size W3 W) => begs37 t hF hps d f (ao := ao) (cap := cap) hn60 W (HL.out W (nx B4 hb)).2.2 (HL.out W (nx B4 hb)).2.1
   have c26 := fun W (hb : Below W3.heap.size W3 W) => allM_any t d W (HL.out W (nx B4 hb)).1 (HL.out W (nx B4 hb)).2.1 hps hF ao cap xs (HL.out W (nx B4 hb)).2.2 (by omega)
   have c38 := fun W (hb : Below W3.heap.size W3 W) => all38 t hF hps d (ao := ao) (cap := cap) hn60 W (HL.out W (nx B4 hb)).2.2 (HL.out W (nx B4 hb)).2.1
   have c38n := fun W (hb : Below W3.heap.size W3 W) => all38 t hF hps d (ao := none) (cap := 0) (xs := []) (by simp) W (fun i hi => by simp at hi) (HL.out W (nx B4 hb)).2.1
   have c39 := fun W (hb : Below W3.heap.size W3 W) => nullM_any t d W (HL.out W (nx B4 hb)).1 (HL.out W (nx B4 hb)).2.1 hps hF
   have E1 := fun zs (h : EndP t xs f zs) => endP_lst hn60 h
   have E3 := fun zs (h : BegP t xs f zs) => begP_lst hn60 h
   obtain ⟨m1, hm1e⟩ : ∃ m, rE t xs f = m := ⟨_, rfl⟩
   obtain ⟨m2, hm2e⟩ : ∃ m, rB t xs f (rN xs.length f) = m := ⟨_, rfl⟩
   have hm1 : m1 < 2 ^ 64 := by
     rw [← hm1e]
     exact Nat.lt_of_lt_of_le (rE_lt t xs f) (Nat.pow_le_pow_right (by decide) (by omega))
   have hm2 : m2 < 2 ^ 64 := by
     rw [← hm2e]
     exact Nat.lt_of_lt_of_le (rB_lt t xs f _) (Nat.pow_le_pow_right (by decide) (by unfold rN; split <;> omega))
   rw [hm1e] at c35 E1
   rw [hm2e] at c37 E3
   unfold ND.v at c33 c35 c36 c37 c26 c38 c38n c39
   rw [List.length_nil] at c38n
   clear hm1e hm2e
   go_wp2
   refine U.Reg.start (B := W3.heap.size) (by kernel_rfl) ?_
   refine U.Reg.take (fun _ _ _ _ _ h => h) 0 _ 26 (.agg #[.int .i64 d.k, .int .i64 d.a, .slice d.sp d.sl d.sc, .string d.n, .slice d.kp d.kl d.kc]) rfl (by kernel_rfl) (by kernel_rfl) (by kernel_rfl) rfl (by kernel_rfl) (by kernel_rfl) (fun w' hb => Reg.ldN rfl rfl (KX w' (bdr hb))) ?_
   refine U.Reg.take (fun _ _ _ _ _ h => h) 1 _ 27 (.slice ao xs.length cap) rfl (by kernel_rfl) (by kernel_rfl) (by kernel_rfl) rfl (by kernel_rfl) (by kernel_rfl) (fun _ _ => Rcl.mv rfl rfl) ?_
   refine U.Reg.take (fun _ _ _ _ _ h => h) 2 _ 28 (.int .i64 f) rfl (by kernel_rfl) (by kernel_rfl) (by kernel_rfl) rfl (by kernel_rfl) (by kernel_rfl) (fun _ _ => Rcl.mv rfl rfl) ?_
   refine U.Reg.take (fun _ _ _ _ _ h => h) 4 _ 30 (.agg #[.int .i64 d.k, .int .i64 d.a, .slice d.sp d.sl d.sc, .string d.n, .slice d.kp d.kl d.kc]) rfl (by kernel_rfl) (by kernel_rfl) (by kernel_rfl) rfl (by kernel_rfl) (by kernel_rfl) (fun w' hb => Reg.ldN rfl rfl (KX w' (bdr hb))) ?_
   refine U.Reg.take (fun _ _ _ _ _ h => h) 5 _ 31 (.slice ao xs.length cap) rfl (by kernel_rfl) (by kernel_rfl) (by kernel_rfl) rfl (by kernel_rfl) (by kernel_rfl) (fun _ _ => Rcl.mv rfl rfl) ?_
   refine U.Reg.take (fun _ _ _ _ _ h => h) 6 _ 32 (.int .i64 f) rfl (by kernel_rfl) (by kernel_rfl) (by kernel_rfl) rfl (by kernel_rfl) (by kernel_rfl) (fun _ _ => Rcl.mv rfl rfl) ?_
   refine U.Reg.call 3 _ 29 33 _ _ #[.agg #[.int .i64 d.k, .int .i64 d.a, .slice d.sp d.sl d.sc, .string d.n, .slice d.kp d.kl d.kc], .slice ao xs.length cap, .int .i64 f] rfl (by kernel_rfl) rfl (by kernel_rfl) (by kernel_rfl) rfl (by kernel_rfl) (by kernel_rfl) (c33 W3.drew (bdr (Below.refl _ _))) ?_
   rintro e w1 ⟨⟨v1, zs1, rfl, ho1, he1⟩, hb1⟩
   have h1 : Below W3.heap.size W3 w1 := bdr hb1
   have e1 := E1 zs1 he1
   obtain ⟨a1, k1, rfl, hr1⟩ := ho1.rd
   subst e1
   refine ⟨_, w1.heap.size, rfl, hb1.size, hb1, ?_⟩
   refine U.Reg.call 7 _ 33 35 _ _ #[.agg #[.int .i64 d.k, .int .i64 d.a, .slice d.sp d.sl d.sc, .string d.n, .slice d.kp d.kl d.kc], .slice ao xs.length cap, .int .i64 f] rfl (by kernel_rfl) rfl (by kernel_rfl) (by kernel_rfl) rfl (by kernel_rfl) (by kernel_rfl) (c35 w1 h1) ?_
   rintro e w2 ⟨rfl, hb2⟩
   have h2 : Below W3.heap.size W3 w2 := nx h1 hb2
   refine ⟨_, w2.heap.size, rfl, hb2.size, hb2, ?_⟩
   refine U.Reg.call 8 _ 34 34 _ _ #[.int .u64 (m1 : Int)] rfl (by kernel_rfl) rfl (by kernel_rfl) (by kernel_rfl) rfl (by kernel_rfl) (by kernel_rfl) (list34 m1 hm1 w2) ?_
   rintro e w3 ⟨v2, rfl, ho2, hb3⟩
   have h3 : Below W3.heap.size W3 w3 := nx h2 hb3
   obtain ⟨a2, k2, rfl, hr2⟩ := ho2.rd
   refine ⟨_, w3.heap.size, rfl, hb3.size, hb3, ?_⟩
   refine U.Reg.call 9 _ 35 32 _ _ #[.slice a1 (E.lst m1).length k1, .slice a2 (E.lst m1).length k2] rfl (by kernel_rfl) rfl (by kernel_rfl) (by kernel_rfl) rfl (by kernel_rfl) (by kernel_rfl) (ints32 a1 a2 k1 k2 (by have := E.lst_len m1; omega) w3 ((hr1.later hb2).later hb3) hr2) ?_
   rintro e w4 ⟨htl, hb4⟩
   have h4 : Below W3.heap.size W3 w4 := nx h3 hb4
   obtain rfl := told_eqI htl
   refine ⟨_, w4.heap.size, rfl, hb4.size, hb4, ?_⟩
   refine U.Reg.take (fun _ _ _ _ _ h => h) 10 _ 36 (.bool true) rfl (by kernel_rfl) (by kernel_rfl) (by kernel_rfl) rfl (by kernel_rfl) (by kernel_rfl) (fun _ _ => Rcl.mv rfl rfl) ?_
   refine U.Reg.take (fun _ _ _ _ _ h => h) 11 _ 37 (.agg #[.int .i64 d.k, .int .i64 d.a, .slice d.sp d.sl d.sc, .string d.n, .slice d.kp d.kl d.kc]) rfl (by kernel_rfl) (by kernel_rfl) (by kernel_rfl) rfl (by kernel_rfl) (by kernel_rfl) (fun w' hb => Reg.ldN rfl rfl (KX w' (nx h4 hb))) ?_
   refine U.Reg.take (fun _ _ _ _ _ h => h) 12 _ 38 (.slice ao xs.length cap) rfl (by kernel_rfl) (by kernel_rfl) (by kernel_rfl) rfl (by kernel_rfl) (by kernel_rfl) (fun _ _ => Rcl.mv rfl rfl) ?_
   refine U.Reg.take (fun _ _ _ _ _ h => h) 13 _ 39 (.int .i64 f) rfl (by kernel_rfl) (by kernel_rfl) (by kernel_rfl) rfl (by kernel_rfl) (by kernel_rfl) (fun _ _ => Rcl.mv rfl rfl) ?_
   refine U.Reg.take (fun _ _ _ _ _ h => h) 15 _ 41 (.agg #[.int .i64 d.k, .int .i64 d.a, .slice d.sp d.sl d.sc, .string d.n, .slice d.kp d.kl d.kc]) rfl (by kernel_rfl) (by kernel_rfl) (by kernel_rfl) rfl (by kernel_rfl) (by kernel_rfl) (fun w' hb => Reg.ldN rfl rfl (KX w' (nx h4 hb))) ?_
   refine U.Reg.take (fun _ _ _ _ _ h => h) 16 _ 42 (.slice ao xs.length cap) rfl (by kernel_rfl) (by kernel_rfl) (by kernel_rfl) rfl (by kernel_rfl) (by kernel_rfl) (fun _ _ => Rcl.mv rfl rfl) ?_
   refine U.Reg.take (fun _ _ _ _ _ h => h) 17 _ 43 (.int .i64 f) rfl (by kernel_rfl) (by kernel_rfl) (by kernel_rfl) rfl (by kernel_rfl) (by kernel_rfl) (fun _ _ => Rcl.mv rfl rfl) ?_
   refine U.Reg.call 14 _ 40 36 _ _ #[.agg #[.int .i64 d.k, .int .i64 d.a, .slice d.sp d.sl d.sc, .string d.n, .slice d.kp d.kl d.kc], .slice ao xs.length cap, .int .i64 f] rfl (by kernel_rfl) rfl (by kernel_rfl) (by kernel_rfl) rfl (by kernel_rfl) (by kernel_rfl) (c36 w4 h4) ?_
   rintro e w5 ⟨⟨v3, zs3, rfl, ho3, he3⟩, hb5⟩
   have h5 : Below W3.heap.size W3 w5 := nx h4 hb5
   have e3 := E3 zs3 he3
   obtain ⟨a3, k3, rfl, hr3⟩ := ho3.rd
   subst e3
   refine ⟨_, w5.heap.size, rfl, hb5.size, hb5, ?_⟩
   refine U.Reg.call 18 _ 44 37 _ _ #[.agg #[.int .i64 d.k, .int .i64 d.a, .slice d.sp d.sl d.sc, .string d.n, .slice d.kp d.kl d.kc], .slice ao xs.length cap, .int .i64 f] rfl (by kernel_rfl) rfl (by kernel_rfl) (by kernel_rfl) rfl (by kernel_rfl) (by kernel_rfl) (c37 w5 h5) ?_
   rintro e w6 ⟨rfl, hb6⟩
   have h6 : Below W3.heap.size W3 w6 := nx h5 hb6
   refine ⟨_, w6.heap.size, rfl, hb6.size, hb6, ?_⟩
   refine U.Reg.call 19 _ 45 34 _ _ #[.int .u64 (m2 : Int)] rfl (by kernel_rfl) rfl (by kernel_rfl) (by kernel_rfl) rfl (by kernel_rfl) (by kernel_rfl) (list34 m2 hm2 w6) ?_
   rintro e w7 ⟨v4, rfl, ho4, hb7⟩
   have h7 : Below W3.heap.size W3 w7 := nx h6 hb7
   obtain ⟨a4, k4, rfl, hr4⟩ := ho4.rd
   refine ⟨_, w7.heap.size, rfl, hb7.size, hb7, ?_⟩
   refine U.Reg.call 20 _ 46 32 _ _ #[.slice a3 (E.lst m2).length k3, .slice a4 (E.lst m2).length k4] rfl (by kernel_rfl) rfl (by kernel_rfl) (by kernel_rfl) rfl (by kernel_rfl) (by kernel_rfl) (ints32 a3 a4 k3 k4 (by have := E.lst_len m2; omega) w7 ((hr3.later hb6).later hb7) hr4) ?_
   rintro e w8 ⟨htl2, hb8⟩
   have h8 : Below W3.heap.size W3 w8 := nx h7 hb8
   obtain rfl := told_eqI htl2
   refine ⟨_, w8.heap.size, rfl, hb8.size, hb8, ?_⟩
   refine U.Reg.take (fun _ _ _ _ _ h => h) 21 _ 47 (.bool true) rfl (by kernel_rfl) (by kernel_rfl) (by kernel_rfl) rfl (by kernel_rfl) (by kernel_rfl) (fun _ _ => by kernel_rfl) ?_
   refine U.Reg.take (fun _ _ _ _ _ h => h) 22 _ 48 (.bool true) rfl (by kernel_rfl) (by kernel_rfl) (by kernel_rfl) rfl (by kernel_rfl) (by kernel_rfl) (fun _ _ => Rcl.mv rfl rfl) ?_
   refine U.Reg.take (fun _ _ _ _ _ h => h) 23 _ 49 (.agg #[.int .i64 d.k, .int .i64 d.a, .slice d.sp d.sl d.sc, .string d.n, .slice d.kp d.kl d.kc]) rfl (by kernel_rfl) (by kernel_rfl) (by kernel_rfl) rfl (by kernel_rfl) (by kernel_rfl) (fun w' hb => Reg.ldN rfl rfl (KX w' (nx h8 hb))) ?_
   refine U.Reg.take (fun _ _ _ _ _ h => h) 24 _ 50 (.slice ao xs.length cap) rfl (by kernel_rfl) (by kernel_rfl) (by kernel_rfl) rfl (by kernel_rfl) (by kernel_rfl) (fun _ _ => Rcl.mv rfl rfl) ?_
   refine U.Reg.take (fun _ _ _ _ _ h => h) 26 _ 52 (.agg #[.int .i64 d.k, .int .i64 d.a, .slice d.sp d.sl d.sc, .string d.n, .slice d.kp d.kl d.kc]) rfl (by kernel_rfl) (by kernel_rfl) (by kernel_rfl) rfl (by kernel_rfl) (by kernel_rfl) (fun w' hb => Reg.ldN rfl rfl (KX w' (nx h8 hb))) ?_
   refine U.Reg.take (fun _ _ _ _ _ h => h) 27 _ 53 (.slice ao xs.length cap) rfl (by kernel_rfl) (by kernel_rfl) (by kernel_rfl) rfl (by kernel_rfl) (by kernel_rfl) (fun _ _ => Rcl.mv rfl rfl) ?_
   refine U.Reg.call 25 _ 51 26 _ _ #[.agg #[.int .i64 d.k, .int .i64 d.a, .slice d.sp d.sl d.sc, .string d.n, .slice d.kp d.kl d.kc], .slice ao xs.length cap] rfl (by kernel_rfl) rfl (by kernel_rfl) (by kernel_rfl) rfl (by kernel_rfl) (by kernel_rfl) (c26 w8 h8) ?_
   rintro e w9 ⟨hq1, hb9⟩
   have h9 : Below W3.heap.size W3 w9 := nx h8 hb9
   obtain rfl := told_dec hq1
   refine ⟨_, w9.heap.size, rfl, hb9.size, hb9, ?_⟩
   refine U.Reg.call 28 _ 54 38 _ _ #[.agg #[.int .i64 d.k, .int .i64 d.a, .slice d.sp d.sl d.sc, .string d.n, .slice d.kp d.kl d.kc], .slice ao xs.length cap] rfl (by kernel_rfl) rfl (by kernel_rfl) (by kernel_rfl) rfl (by kernel_rfl) (by kernel_rfl) (c38 w9 h9) ?_
   rintro e w10 ⟨hq2, hb10⟩
   have h10 : Below W3.heap.size W3 w10 := nx h9 hb10
   obtain rfl := told_dec hq2
   refine ⟨_, w10.heap.size, rfl, hb10.size, hb10, ?_⟩
   refine U.Reg.take (fun _ _ _ _ _ h => h) 29 _ 55 (.bool true) rfl (by kernel_rfl) (by kernel_rfl) (by kernel_rfl) rfl (by kernel_rfl) (by kernel_rfl) (fun _ _ => Reg.eqTT8 rfl rfl rfl) ?_
   refine U.Reg.take (fun _ _ _ _ _ h => h) 30 _ 56 (.bool true) rfl (by kernel_rfl) (by kernel_rfl) (by kernel_rfl) rfl (by kernel_rfl) (by kernel_rfl) (fun _ _ => by kernel_rfl) ?_
   refine U.Reg.take (fun _ _ _ _ _ h => h) 31 _ 57 (.bool true) rfl (by kernel_rfl) (by kernel_rfl) (by kernel_rfl) rfl (by kernel_rfl) (by kernel_rfl) (fun _ _ => Rcl.mv rfl rfl) ?_
   refine U.Reg.take (fun _ _ _ _ _ h => h) 32 _ 58 (.agg #[.int .i64 d.k, .int .i64 d.a, .slice d.sp d.sl d.sc, .string d.n, .slice d.kp d.kl d.kc]) rfl (by kernel_rfl) (by kernel_rfl) (by kernel_rfl) rfl (by kernel_rfl) (by kernel_rfl) (fun w' hb => Reg.ldN rfl rfl (KX w' (nx h10 hb))) ?_
   refine U.Reg.take (fun _ _ _ _ _ h => h) 34 _ 60 (.bool false) rfl (by kernel_rfl) (by kernel_rfl) (by kernel_rfl) rfl (by kernel_rfl) (by kernel_rfl) (fun _ _ => Rcl.mv rfl rfl) ?_
   refine U.Reg.call 33 _ 59 39 _ _ #[.agg #[.int .i64 d.k, .int .i64 d.a, .slice d.sp d.sl d.sc, .string d.n, .slice d.kp d.kl d.kc]] rfl (by kernel_rfl) rfl (by kernel_rfl) (by kernel_rfl) rfl (by kernel_rfl) (by kernel_rfl) (c39 w10 h10) ?_
   rintro e w11 ⟨hq3, hb11⟩
   have h11 : Below W3.heap.size W3 w11 := nx h10 hb11
   obtain rfl := told_dec hq3
   refine ⟨_, w11.heap.size, rfl, hb11.size, hb11, ?_⟩
   refine U.Reg.take (fun _ _ _ _ _ h => h) 35 _ 61 (.bool false) rfl (by kernel_rfl) (by kernel_rfl) (by kernel_rfl) rfl (by kernel_rfl) (by kernel_rfl) (fun _ _ => Rcl.mv rfl rfl) ?_
   refine U.Reg.skip (fun _ _ _ _ _ h => h) 36 _ 62 rfl (by kernel_rfl) (by kernel_rfl) (by kernel_rfl) rfl (by kernel_rfl) (by kernel_rfl) ?_
   refine U.Reg.skip (fun _ _ _ _ _ h => h) 37 _ 63 rfl (by kernel_rfl) (by kernel_rfl) (by kernel_rfl) rfl (by kernel_rfl) (by kernel_rfl) ?_
   refine U.Reg.take (fun _ _ _ _ _ h => h) 38 _ 64 (.bool false) rfl (by kernel_rfl) (by kernel_rfl) (by kernel_rfl) rfl (by kernel_rfl) (by kernel_rfl) (fun _ _ => by kernel_rfl) ?_
   refine U.Reg.take (fun _ _ _ _ _ h => h) 39 _ 65 (.bool true) rfl (by kernel_rfl) (by kernel_rfl) (by kernel_rfl) rfl (by kernel_rfl) (by kernel_rfl) (fun _ _ => Reg.eqTT8 rfl (congrArg Value.bool HNN.out) rfl) ?_
   refine U.Reg.take (fun _ _ _ _ _ h => h) 40 _ 66 (.bool true) rfl (by kernel_rfl) (by kernel_rfl) (by kernel_rfl) rfl (by kernel_rfl) (by kernel_rfl) (fun _ _ => by kernel_rfl) ?_
   refine U.Reg.take (fun _ _ _ _ _ h => h) 41 _ 6 (.bool true) rfl (by kernel_rfl) (by kernel_rfl) (by kernel_rfl) rfl (by kernel_rfl) (by kernel_rfl) (fun _ _ => by kernel_rfl) ?_
   refine U.Reg.done (by kernel_rfl) ?_
   simp only [U.Reg.ov, Act.put, List.setIfInBounds_toArray, List.set_cons_succ, List.set_cons_zero]
   have hBf := nx B4 h11
   clear c33 c35 c36 c37 c26 c38 c38n c39 KX
   go_wp2
   go_ret
   exact ⟨rfl, hBf⟩
 | true =>
   have hIp := HBI.out.1 rfl
   have hN := namesR_any t hps (PA.names_of hIp) d W3 (HL.out W3 B3).2.1
   obtain ⟨q0, q1, q2, q3, q4⟩ := cells_five m3
   have HI := hide hIp
   unfold ND.v at hN
   clear hIp HBI
   go_wp2_with fail
   refine hN.mono ?_
   rintro e W4 ⟨u, rfl, ho, hb4⟩
   obtain ⟨no, cN, rfl⟩ := ho.rd'
   have B4 := nx B3 hb4
   have m4 := (hb4.block _ (Array.getElem?_eq_some_iff.1 m3).1).trans m3
   clear hN ho hb4 m3 q0 q1 q2 q3 q4 B3
   obtain ⟨nl, hnl⟩ : ∃ nl, (E.nmL t).length = nl := ⟨_, rfl⟩
   have HNL := hide hnl
   rw [hnl]
   clear hnl
   by_cases hl : nl = 0
   · subst hl
     have hok : ((0 : Nat) : Int) = 0 := rfl
     have KX : ∀ W, Below W4.heap.size W4 W → W.heap[w.heap.size]? = some (.cells #[.int .i64 d.k, .int .i64 d.a, .slice d.sp d.sl d.sc, .string d.n, .slice d.kp d.kl d.kc] 26) := fun W hb => (hb.block _ (Array.getElem?_eq_some_iff.1 m4).1).trans m4
     have c33 := fun W (hb : Below W4.heap.size W4 W) => endsM_any t d W (HL.out W (nx B4 hb)).1 (HL.out W (nx B4 hb)).2.1 hps hF ao cap xs (HL.out W (nx B4 hb)).2.2 (by omega) hcap f
     have c35 := fun W (hb : Below W4.heap.size W4 W) => ends35 t hF hps d f (ao := ao) (cap := cap) hn60 W (HL.out W (nx B4 hb)).2.2 (HL.out W (nx B4 hb)).2.1
     have c36 := fun W (hb : Below W4.heap.size W4 W) => begsM_any t d W (HL.out W (nx B4 hb)).1 (HL.out W (nx B4 hb)).2.1 hps hF ao cap xs (HL.out W (nx B4 hb)).2.2 (by omega) hcap f
     have c37 := fun W (hb : Below W4.heap.size W4 W) => begs37 t hF hps d f (ao := ao) (cap := cap) hn60 W (HL.out W (nx B4 hb)).2.2 (HL.out W (nx B4 hb)).2.1
     have c26 := fun W (hb : Below W4.heap.size W4 W) => allM_any t d W (HL.out W (nx B4 hb)).1 (HL.out W (nx B4 hb)).2.1 hps hF ao cap xs (HL.out W (nx B4 hb)).2.2 (by omega)
     have c38 := fun W (hb : Below W4.heap.size W4 W) => all38 t hF hps d (ao := ao) (cap := cap) hn60 W (HL.out W (nx B4 hb)).2.2 (HL.out W (nx B4 hb)).2.1
     have c38n := fun W (hb : Below W4.heap.size W4 W) => all38 t hF hps d (ao := none) (cap := 0) (xs := []) (by simp) W (fun i hi => by simp at hi) (HL.out W (nx B4 hb)).2.1
     have c39 := fun W (hb : Below W4.heap.size W4 W) => nullM_any t d W (HL.out W (nx B4 hb)).1 (HL.out W (nx B4 hb)).2.1 hps hF
     have E1 := fun zs (h : EndP t xs f zs) => endP_lst hn60 h
     have E3 := fun zs (h : BegP t xs f zs) => begP_lst hn60 h
     obtain ⟨m1, hm1e⟩ : ∃ m, rE t xs f = m := ⟨_, rfl⟩
     obtain ⟨m2, hm2e⟩ : ∃ m, rB t xs f (rN xs.length f) = m := ⟨_, rfl⟩
     have hm1 : m1 < 2 ^ 64 := by
       rw [← hm1e]
       exact Nat.lt_of_lt_of_le (rE_lt t xs f) (Nat.pow_le_pow_right (by decide) (by omega))
     have hm2 : m2 < 2 ^ 64 := by
       rw [← hm2e]
       exact Nat.lt_of_lt_of_le (rB_lt t xs f _) (Nat.pow_le_pow_right (by decide) (by unfold rN; split <;> omega))
     rw [hm1e] at c35 E1
     rw [hm2e] at c37 E3
     unfold ND.v at c33 c35 c36 c37 c26 c38 c38n c39
     rw [List.length_nil] at c38n
     clear hm1e hm2e
     go_wp2
     refine U.Reg.start (B := W4.heap.size) (by kernel_rfl) ?_
     refine U.Reg.take (fun _ _ _ _ _ h => h) 0 _ 26 (.agg #[.int .i64 d.k, .int .i64 d.a, .slice d.sp d.sl d.sc, .string d.n, .slice d.kp d.kl d.kc]) rfl (by kernel_rfl) (by kernel_rfl) (by kernel_rfl) rfl (by kernel_rfl) (by kernel_rfl) (fun w' hb => Reg.ldN rfl rfl (KX w' (bdr hb))) ?_
     refine U.Reg.take (fun _ _ _ _ _ h => h) 1 _ 27 (.slice ao xs.length cap) rfl (by kernel_rfl) (by kernel_rfl) (by kernel_rfl) rfl (by kernel_rfl) (by kernel_rfl) (fun _ _ => Rcl.mv rfl rfl) ?_
     refine U.Reg.take (fun _ _ _ _ _ h => h) 2 _ 28 (.int .i64 f) rfl (by kernel_rfl) (by kernel_rfl) (by kernel_rfl) rfl (by kernel_rfl) (by kernel_rfl) (fun _ _ => Rcl.mv rfl rfl) ?_
     refine U.Reg.take (fun _ _ _ _ _ h => h) 4 _ 30 (.agg #[.int .i64 d.k, .int .i64 d.a, .slice d.sp d.sl d.sc, .string d.n, .slice d.kp d.kl d.kc]) rfl (by kernel_rfl) (by kernel_rfl) (by kernel_rfl) rfl (by kernel_rfl) (by kernel_rfl) (fun w' hb => Reg.ldN rfl rfl (KX w' (bdr hb))) ?_
     refine U.Reg.take (fun _ _ _ _ _ h => h) 5 _ 31 (.slice ao xs.length cap) rfl (by kernel_rfl) (by kernel_rfl) (by kernel_rfl) rfl (by kernel_rfl) (by kernel_rfl) (fun _ _ => Rcl.mv rfl rfl) ?_
     refine U.Reg.take (fun _ _ _ _ _ h => h) 6 _ 32 (.int .i64 f) rfl (by kernel_rfl) (by kernel_rfl) (by kernel_rfl) rfl (by kernel_rfl) (by kernel_rfl) (fun _ _ => Rcl.mv rfl rfl) ?_
     refine U.Reg.call 3 _ 29 33 _ _ #[.agg #[.int .i64 d.k, .int .i64 d.a, .slice d.sp d.sl d.sc, .string d.n, .slice d.kp d.kl d.kc], .slice ao xs.length cap, .int .i64 f] rfl (by kernel_rfl) rfl (by kernel_rfl) (by kernel_rfl) rfl (by kernel_rfl) (by kernel_rfl) (c33 W4.drew (bdr (Below.refl _ _))) ?_
     rintro e w1 ⟨⟨v1, zs1, rfl, ho1, he1⟩, hb1⟩
     have h1 : Below W4.heap.size W4 w1 := bdr hb1
     have e1 := E1 zs1 he1
     obtain ⟨a1, k1, rfl, hr1⟩ := ho1.rd
     subst e1
     refine ⟨_, w1.heap.size, rfl, hb1.size, hb1, ?_⟩
     refine U.Reg.call 7 _ 33 35 _ _ #[.agg #[.int .i64 d.k, .int .i64 d.a, .slice d.sp d.sl d.sc, .string d.n, .slice d.kp d.kl d.kc], .slice ao xs.length cap, .int .i64 f] rfl (by kernel_rfl) rfl (by kernel_rfl) (by kernel_rfl) rfl (by kernel_rfl) (by kernel_rfl) (c35 w1 h1) ?_
     rintro e w2 ⟨rfl, hb2⟩
     have h2 : Below W4.heap.size W4 w2 := nx h1 hb2
     refine ⟨_, w2.heap.size, rfl, hb2.size, hb2, ?_⟩
     refine U.Reg.call 8 _ 34 34 _ _ #[.int .u64 (m1 : Int)] rfl (by kernel_rfl) rfl (by kernel_rfl) (by kernel_rfl) rfl (by kernel_rfl) (by kernel_rfl) (list34 m1 hm1 w2) ?_
     rintro e w3 ⟨v2, rfl, ho2, hb3⟩
     have h3 : Below W4.heap.size W4 w3 := nx h2 hb3
     obtain ⟨a2, k2, rfl, hr2⟩ := ho2.rd
     refine ⟨_, w3.heap.size, rfl, hb3.size, hb3, ?_⟩
     refine U.Reg.call 9 _ 35 32 _ _ #[.slice a1 (E.lst m1).length k1, .slice a2 (E.lst m1).length k2] rfl (by kernel_rfl) rfl (by kernel_rfl) (by kernel_rfl) rfl (by kernel_rfl) (by kernel_rfl) (ints32 a1 a2 k1 k2 (by have := E.lst_len m1; omega) w3 ((hr1.later hb2).later hb3) hr2) ?_
     rintro e w4 ⟨htl, hb4⟩
     have h4 : Below W4.heap.size W4 w4 := nx h3 hb4
     obtain rfl := told_eqI htl
     refine ⟨_, w4.heap.size, rfl, hb4.size, hb4, ?_⟩
     refine U.Reg.take (fun _ _ _ _ _ h => h) 10 _ 36 (.bool true) rfl (by kernel_rfl) (by kernel_rfl) (by kernel_rfl) rfl (by kernel_rfl) (by kernel_rfl) (fun _ _ => Rcl.mv rfl rfl) ?_
     refine U.Reg.take (fun _ _ _ _ _ h => h) 11 _ 37 (.agg #[.int .i64 d.k, .int .i64 d.a, .slice d.sp d.sl d.sc, .string d.n, .slice d.kp d.kl d.kc]) rfl (by kernel_rfl) (by kernel_rfl) (by kernel_rfl) rfl (by kernel_rfl) (by kernel_rfl) (fun w' hb => Reg.ldN rfl rfl (KX w' (nx h4 hb))) ?_
     refine U.Reg.take (fun _ _ _ _ _ h => h) 12 _ 38 (.slice ao xs.length cap) rfl (by kernel_rfl) (by kernel_rfl) (by kernel_rfl) rfl (by kernel_rfl) (by kernel_rfl) (fun _ _ => Rcl.mv rfl rfl) ?_
     refine U.Reg.take (fun _ _ _ _ _ h => h) 13 _ 39 (.int .i64 f) rfl (by kernel_rfl) (by kernel_rfl) (by kernel_rfl) rfl (by kernel_rfl) (by kernel_rfl) (fun _ _ => Rcl.mv rfl rfl) ?_
     refine U.Reg.take (fun _ _ _ _ _ h => h) 15 _ 41 (.agg #[.int .i64 d.k, .int .i64 d.a, .slice d.sp d.sl d.sc, .string d.n, .slice d.kp d.kl d.kc]) rfl (by kernel_rfl) (by kernel_rfl) (by kernel_rfl) rfl (by kernel_rfl) (by kernel_rfl) (fun w' hb => Reg.ldN rfl rfl (KX w' (nx h4 hb))) ?_
     refine U.Reg.take (fun _ _ _ _ _ h => h) 16 _ 42 (.slice ao xs.length cap) rfl (by kernel_rfl) (by kernel_rfl) (by kernel_rfl) rfl (by kernel_rfl) (by kernel_rfl) (fun _ _ => Rcl.mv rfl rfl) ?_
     refine U.Reg.take (fun _ _ _ _ _ h => h) 17 _ 43 (.int .i64 f) rfl (by kernel_rfl) (by kernel_rfl) (by kernel_rfl) rfl (by kernel_rfl) (by kernel_rfl) (fun _ _ => Rcl.mv rfl rfl) ?_
     refine U.Reg.call 14 _ 40 36 _ _ #[.agg #[.int .i64 d.k, .int .i64 d.a, .slice d.sp d.sl d.sc, .string d.n, .slice d.kp d.kl d.kc], .slice ao xs.length cap, .int .i64 f] rfl (by kernel_rfl) rfl (by kernel_rfl) (by kernel_rfl) rfl (by kernel_rfl) (by kernel_rfl) (c36 w4 h4) ?_
     rintro e w5 ⟨⟨v3, zs3, rfl, ho3, he3⟩, hb5⟩
     have h5 : Below W4.heap.size W4 w5 := nx h4 hb5
     have e3 := E3 zs3 he3
     obtain ⟨a3, k3, rfl, hr3⟩ := ho3.rd
     subst e3
     refine ⟨_, w5.heap.size, rfl, hb5.size, hb5, ?_⟩
     refine U.Reg.call 18 _ 44 37 _ _ #[.agg #[.int .i64 d.k, .int .i64 d.a, .slice d.sp d.sl d.sc, .string d.n, .slice d.kp d.kl d.kc], .slice ao xs.length cap, .int .i64 f] rfl (by kernel_rfl) rfl (by kernel_rfl) (by kernel_rfl) rfl (by kernel_rfl) (by kernel_rfl) (c37 w5 h5) ?_
     rintro e w6 ⟨rfl, hb6⟩
     have h6 : Below W4.heap.size W4 w6 := nx h5 hb6
     refine ⟨_, w6.heap.size, rfl, hb6.size, hb6, ?_⟩
     refine U.Reg.call 19 _ 45 34 _ _ #[.int .u64 (m2 : Int)] rfl (by kernel_rfl) rfl (by kernel_rfl) (by kernel_rfl) rfl (by kernel_rfl) (by kernel_rfl) (list34 m2 hm2 w6) ?_
     rintro e w7 ⟨v4, rfl, ho4, hb7⟩
     have h7 : Below W4.heap.size W4 w7 := nx h6 hb7
     obtain ⟨a4, k4, rfl, hr4⟩ := ho4.rd
     refine ⟨_, w7.heap.size, rfl, hb7.size, hb7, ?_⟩
     refine U.Reg.call 20 _ 46 32 _ _ #[.slice a3 (E.lst m2).length k3, .slice a4 (E.lst m2).length k4] rfl (by kernel_rfl) rfl (by kernel_rfl) (by kernel_rfl) rfl (by kernel_rfl) (by kernel_rfl) (ints32 a3 a4 k3 k4 (by have := E.lst_len m2; omega) w7 ((hr3.later hb6).later hb7) hr4) ?_
     rintro e w8 ⟨htl2, hb8⟩
     have h8 : Below W4.heap.size W4 w8 := nx h7 hb8
     obtain rfl := told_eqI htl2
     refine ⟨_, w8.heap.size, rfl, hb8.size, hb8, ?_⟩
     refine U.Reg.take (fun _ _ _ _ _ h => h) 21 _ 47 (.bool true) rfl (by kernel_rfl) (by kernel_rfl) (by kernel_rfl) rfl (by kernel_rfl) (by kernel_rfl) (fun _ _ => by kernel_rfl) ?_
     refine U.Reg.take (fun _ _ _ _ _ h => h) 22 _ 48 (.bool true) rfl (by kernel_rfl) (by kernel_rfl) (by kernel_rfl) rfl (by kernel_rfl) (by kernel_rfl) (fun _ _ => Rcl.mv rfl rfl) ?_
     refine U.Reg.take (fun _ _ _ _ _ h => h) 23 _ 49 (.agg #[.int .i64 d.k, .int .i64 d.a, .slice d.sp d.sl d.sc, .string d.n, .slice d.kp d.kl d.kc]) rfl (by kernel_rfl) (by kernel_rfl) (by kernel_rfl) rfl (by kernel_rfl) (by kernel_rfl) (fun w' hb => Reg.ldN rfl rfl (KX w' (nx h8 hb))) ?_
     refine U.Reg.take (fun _ _ _ _ _ h => h) 24 _ 50 (.slice ao xs.length cap) rfl (by kernel_rfl) (by kernel_rfl) (by kernel_rfl) rfl (by kernel_rfl) (by kernel_rfl) (fun _ _ => Rcl.mv rfl rfl) ?_
     refine U.Reg.take (fun _ _ _ _ _ h => h) 26 _ 52 (.agg #[.int .i64 d.k, .int .i64 d.a, .slice d.sp d.sl d.sc, .string d.n, .slice d.kp d.kl d.kc]) rfl (by kernel_rfl) (by kernel_rfl) (by kernel_rfl) rfl (by kernel_rfl) (by kernel_rfl) (fun w' hb => Reg.ldN rfl rfl (KX w' (nx h8 hb))) ?_
     refine U.Reg.take (fun _ _ _ _ _ h => h) 27 _ 53 (.slice ao xs.length cap) rfl (by kernel_rfl) (by kernel_rfl) (by kernel_rfl) rfl (by kernel_rfl) (by kernel_rfl) (fun _ _ => Rcl.mv rfl rfl) ?_
     refine U.Reg.call 25 _ 51 26 _ _ #[.agg #[.int .i64 d.k, .int .i64 d.a, .slice d.sp d.sl d.sc, .string d.n, .slice d.kp d.kl d.kc], .slice ao xs.length cap] rfl (by kernel_rfl) rfl (by kernel_rfl) (by kernel_rfl) rfl (by kernel_rfl) (by kernel_rfl) (c26 w8 h8) ?_
     rintro e w9 ⟨hq1, hb9⟩
     have h9 : Below W4.heap.size W4 w9 := nx h8 hb9
     obtain rfl := told_dec hq1
     refine ⟨_, w9.heap.size, rfl, hb9.size, hb9, ?_⟩
     refine U.Reg.call 28 _ 54 38 _ _ #[.agg #[.int .i64 d.k, .int .i64 d.a, .slice d.sp d.sl d.sc, .string d.n, .slice d.kp d.kl d.kc], .slice ao xs.length cap] rfl (by kernel_rfl) rfl (by kernel_rfl) (by kernel_rfl) rfl (by kernel_rfl) (by kernel_rfl) (c38 w9 h9) ?_
     rintro e w10 ⟨hq2, hb10⟩
     have h10 : Below W4.heap.size W4 w10 := nx h9 hb10
     obtain rfl := told_dec hq2
     refine ⟨_, w10.heap.size, rfl, hb10.size, hb10, ?_⟩
     refine U.Reg.take (fun _ _ _ _ _ h => h) 29 _ 55 (.bool true) rfl (by kernel_rfl) (by kernel_rfl) (by kernel_rfl) rfl (by kernel_rfl) (by kernel_rfl) (fun _ _ => Reg.eqTT8 rfl rfl rfl) ?_
     refine U.Reg.take (fun _ _ _ _ _ h => h) 30 _ 56 (.bool true) rfl (by kernel_rfl) (by kernel_rfl) (by kernel_rfl) rfl (by kernel_rfl) (by kernel_rfl) (fun _ _ => by kernel_rfl) ?_
     refine U.Reg.take (fun _ _ _ _ _ h => h) 31 _ 57 (.bool true) rfl (by kernel_rfl) (by kernel_rfl) (by kernel_rfl) rfl (by kernel_rfl) (by kernel_rfl) (fun _ _ => Rcl.mv rfl rfl) ?_
     refine U.Reg.take (fun _ _ _ _ _ h => h) 32 _ 58 (.agg #[.int .i64 d.k, .int .i64 d.a, .slice d.sp d.sl d.sc, .string d.n, .slice d.kp d.kl d.kc]) rfl (by kernel_rfl) (by kernel_rfl) (by kernel_rfl) rfl (by kernel_rfl) (by kernel_rfl) (fun w' hb => Reg.ldN rfl rfl (KX w' (nx h10 hb))) ?_
     refine U.Reg.take (fun _ _ _ _ _ h => h) 34 _ 60 (.bool true) rfl (by kernel_rfl) (by kernel_rfl) (by kernel_rfl) rfl (by kernel_rfl) (by kernel_rfl) (fun _ _ => Rcl.mv rfl rfl) ?_
     refine U.Reg.call 33 _ 59 39 _ _ #[.agg #[.int .i64 d.k, .int .i64 d.a, .slice d.sp d.sl d.sc, .string d.n, .slice d.kp d.kl d.kc]] rfl (by kernel_rfl) rfl (by kernel_rfl) (by kernel_rfl) rfl (by kernel_rfl) (by kernel_rfl) (c39 w10 h10) ?_
     rintro e w11 ⟨hq3, hb11⟩
     have h11 : Below W4.heap.size W4 w11 := nx h10 hb11
     obtain rfl := told_dec hq3
     refine ⟨_, w11.heap.size, rfl, hb11.size, hb11, ?_⟩
     refine U.Reg.take (fun _ _ _ _ _ h => h) 35 _ 61 (.bool true) rfl (by kernel_rfl) (by kernel_rfl) (by kernel_rfl) rfl (by kernel_rfl) (by kernel_rfl) (fun _ _ => Rcl.mv rfl rfl) ?_
     refine U.Reg.take (fun _ _ _ _ _ h => h) 36 _ 62 (.agg #[.int .i64 d.k, .int .i64 d.a, .slice d.sp d.sl d.sc, .string d.n, .slice d.kp d.kl d.kc]) rfl (by kernel_rfl) (by kernel_rfl) (by kernel_rfl) rfl (by kernel_rfl) (by kernel_rfl) (fun w' hb => Reg.ldN rfl rfl (KX w' (nx h11 hb))) ?_
     refine U.Reg.call 37 _ 63 38 _ _ #[.agg #[.int .i64 d.k, .int .i64 d.a, .slice d.sp d.sl d.sc, .string d.n, .slice d.kp d.kl d.kc], .slice none 0 0] rfl (by kernel_rfl) rfl (by kernel_rfl) (by kernel_rfl) rfl (by kernel_rfl) (by kernel_rfl) (c38n w11 h11) ?_
     rintro e w12 ⟨hq4, hb12⟩
     have h12 : Below W4.heap.size W4 w12 := nx h11 hb12
     obtain rfl := told_dec hq4
     refine ⟨_, w12.heap.size, rfl, hb12.size, hb12, ?_⟩
     refine U.Reg.take (fun _ _ _ _ _ h => h) 38 _ 64 (.bool (decB (AllP t []))) rfl (by kernel_rfl) (by kernel_rfl) (by kernel_rfl) rfl (by kernel_rfl) (by kernel_rfl) (fun _ _ => by kernel_rfl) ?_
     refine U.Reg.take (fun _ _ _ _ _ h => h) 39 _ 65 (.bool true) rfl (by kernel_rfl) (by kernel_rfl) (by kernel_rfl) rfl (by kernel_rfl) (by kernel_rfl) (fun _ _ => Reg.eqTT8 rfl rfl rfl) ?_
     refine U.Reg.take (fun _ _ _ _ _ h => h) 40 _ 66 (.bool true) rfl (by kernel_rfl) (by kernel_rfl) (by kernel_rfl) rfl (by kernel_rfl) (by kernel_rfl) (fun _ _ => by kernel_rfl) ?_
     refine U.Reg.take (fun _ _ _ _ _ h => h) 41 _ 6 (.bool true) rfl (by kernel_rfl) (by kernel_rfl) (by kernel_rfl) rfl (by kernel_rfl) (by kernel_rfl) (fun _ _ => by kernel_rfl) ?_
     refine U.Reg.done (by kernel_rfl) ?_
     simp only [U.Reg.ov, Act.put, List.setIfInBounds_toArray, List.set_cons_succ, List.set_cons_zero]
     have hBf := nx B4 h12
     clear c33 c35 c36 c37 c26 c38 c38n c39 KX
     go_wp2
     go_ret
     exact ⟨rfl, hBf⟩
   · have hnz : (((nl : Nat) : Int) == 0) = false := by simp [hl]
     have HNN : Hid (decB (AllP t []) = false) := hide (decB_no fun h => hl (by rw [← HNL.out]; exact (E.nmL_nil t).2 h.1.2))
     have KX : ∀ W, Below W4.heap.size W4 W → W.heap[w.heap.size]? = some (.cells #[.int .i64 d.k, .int .i64 d.a, .slice d.sp d.sl d.sc, .string d.n, .slice d.kp d.kl d.kc] 26) := fun W hb => (hb.block _ (Array.getElem?_eq_some_iff.1 m4).1).trans m4
     have c33 := fun W (hb : Below W4.heap.size W4 W) => endsM_any t d W (HL.out W (nx B4 hb)).1 (HL.out W (nx B4 hb)).2.1 hps hF ao cap xs (HL.out W (nx B4 hb)).2.2 (by omega) hcap f
     have c35 := fun W (hb : Below W4.heap.size W4 W) => ends35 t hF hps d f (ao := ao) (cap := cap) hn60 W (HL.out W (nx B4 hb)).2.2 (HL.out W (nx B4 hb)).2.1
     have c36 := fun W (hb : Below W4.heap.size W4 W) => begsM_any t d W (HL.out W (nx B4 hb)).1 (HL.out W (nx B4 hb)).2.1 hps hF ao cap xs (HL.out W (nx B4 hb)).2.2 (by omega) hcap f
     have c37 := fun W (hb : Below W4.heap.size W4 W) => begs37 t hF hps d f (ao := ao) (cap := cap) hn60 W (HL.out W (nx B4 hb)).2.2 (HL.out W (nx B4 hb)).2.1
     have c26 := fun W (hb : Below W4.heap.size W4 W) => allM_any t d W (HL.out W (nx B4 hb)).1 (HL.out W (nx B4 hb)).2.1 hps hF ao cap xs (HL.out W (nx B4 hb)).2.2 (by omega)
     have c38 := fun W (hb : Below W4.heap.size W4 W) => all38 t hF hps d (ao := ao) (cap := cap) hn60 W (HL.out W (nx B4 hb)).2.2 (HL.out W (nx B4 hb)).2.1
     have c38n := fun W (hb : Below W4.heap.size W4 W) => all38 t hF hps d (ao := none) (cap := 0) (xs := []) (by simp) W (fun i hi => by simp at hi) (HL.out W (nx B4 hb)).2.1
     have c39 := fun W (hb : Below W4.heap.size W4 W) => nullM_any t d W (HL.out W (nx B4 hb)).1 (HL.out W (nx B4 hb)).2.1 hps hF
     have E1 := fun zs (h : EndP t xs f zs) => endP_lst hn60 h
     have E3 := fun zs (h : BegP t xs f zs) => begP_lst hn60 h
     obtain ⟨m1, hm1e⟩ : ∃ m, rE t xs f = m := ⟨_, rfl⟩
     obtain ⟨m2, hm2e⟩ : ∃ m, rB t xs f (rN xs.length f) = m := ⟨_, rfl⟩
     have hm1 : m1 < 2 ^ 64 := by
       rw [← hm1e]
       exact Nat.lt_of_lt_of_le (rE_lt t xs f) (Nat.pow_le_pow_right (by decide) (by omega))
     have hm2 : m2 < 2 ^ 64 := by
       rw [← hm2e]
       exact Nat.lt_of_lt_of_le (rB_lt t xs f _) (Nat.pow_le_pow_right (by decide) (by unfold rN; split <;> omega))
     rw [hm1e] at c35 E1
     rw [hm2e] at c37 E3
     unfold ND.v at c33 c35 c36 c37 c26 c38 c38n c39
     rw [List.length_nil] at c38n
     clear hm1e hm2e
     go_wp2
     refine U.Reg.start (B := W4.heap.size) (by kernel_rfl) ?_
     refine U.Reg.take (fun _ _ _ _ _ h => h) 0 _ 26 (.agg #[.int .i64 d.k, .int .i64 d.a, .slice d.sp d.sl d.sc, .string d.n, .slice d.kp d.kl d.kc]) rfl (by kernel_rfl) (by kernel_rfl) (by kernel_rfl) rfl (by kernel_rfl) (by kernel_rfl) (fun w' hb => Reg.ldN rfl rfl (KX w' (bdr hb))) ?_
     refine U.Reg.take (fun _ _ _ _ _ h => h) 1 _ 27 (.slice ao xs.length cap) rfl (by kernel_rfl) (by kernel_rfl) (by kernel_rfl) rfl (by kernel_rfl) (by kernel_rfl) (fun _ _ => Rcl.mv rfl rfl) ?_
     refine U.Reg.take (fun _ _ _ _ _ h => h) 2 _ 28 (.int .i64 f) rfl (by kernel_rfl) (by kernel_rfl) (by kernel_rfl) rfl (by kernel_rfl) (by kernel_rfl) (fun _ _ => Rcl.mv rfl rfl) ?_
     refine U.Reg.take (fun _ _ _ _ _ h => h) 4 _ 30 (.agg #[.int .i64 d.k, .int .i64 d.a, .slice d.sp d.sl d.sc, .string d.n, .slice d.kp d.kl d.kc]) rfl (by kernel_rfl) (by kernel_rfl) (by kernel_rfl) rfl (by kernel_rfl) (by kernel_rfl) (fun w' hb => Reg.ldN rfl rfl (KX w' (bdr hb))) ?_
     refine U.Reg.take (fun _ _ _ _ _ h => h) 5 _ 31 (.slice ao xs.length cap) rfl (by kernel_rfl) (by kernel_rfl) (by kernel_rfl) rfl (by kernel_rfl) (by kernel_rfl) (fun _ _ => Rcl.mv rfl rfl) ?_
     refine U.Reg.take (fun _ _ _ _ _ h => h) 6 _ 32 (.int .i64 f) rfl (by kernel_rfl) (by kernel_rfl) (by kernel_rfl) rfl (by kernel_rfl) (by kernel_rfl) (fun _ _ => Rcl.mv rfl rfl) ?_
     refine U.Reg.call 3 _ 29 33 _ _ #[.agg #[.int .i64 d.k, .int .i64 d.a, .slice d.sp d.sl d.sc, .string d.n, .slice d.kp d.kl d.kc], .slice ao xs.length cap, .int .i64 f] rfl (by kernel_rfl) rfl (by kernel_rfl) (by kernel_rfl) rfl (by kernel_rfl) (by kernel_rfl) (c33 W4.drew (bdr (Below.refl _ _))) ?_
     rintro e w1 ⟨⟨v1, zs1, rfl, ho1, he1⟩, hb1⟩
     have h1 : Below W4.heap.size W4 w1 := bdr hb1
     have e1 := E1 zs1 he1
     obtain ⟨a1, k1, rfl, hr1⟩ := ho1.rd
     subst e1
     refine ⟨_, w1.heap.size, rfl, hb1.size, hb1, ?_⟩
     refine U.Reg.call 7 _ 33 35 _ _ #[.agg #[.int .i64 d.k, .int .i64 d.a, .slice d.sp d.sl d.sc, .string d.n, .slice d.kp d.kl d.kc], .slice ao xs.length cap, .int .i64 f] rfl (by kernel_rfl) rfl (by kernel_rfl) (by kernel_rfl) rfl (by kernel_rfl) (by kernel_rfl) (c35 w1 h1) ?_
     rintro e w2 ⟨rfl, hb2⟩
     have h2 : Below W4.heap.size W4 w2 := nx h1 hb2
     refine ⟨_, w2.heap.size, rfl, hb2.size, hb2, ?_⟩
     refine U.Reg.call 8 _ 34 34 _ _ #[.int .u64 (m1 : Int)] rfl (by kernel_rfl) rfl (by kernel_rfl) (by kernel_rfl) rfl (by kernel_rfl) (by kernel_rfl) (list34 m1 hm1 w2) ?_
     rintro e w3 ⟨v2, rfl, ho2, hb3⟩
     have h3 : Below W4.heap.size W4 w3 := nx h2 hb3
     obtain ⟨a2, k2, rfl, hr2⟩ := ho2.rd
     refine ⟨_, w3.heap.size, rfl, hb3.size, hb3, ?_⟩
     refine U.Reg.call 9 _ 35 32 _ _ #[.slice a1 (E.lst m1).length k1, .slice a2 (E.lst m1).length k2] rfl (by kernel_rfl) rfl (by kernel_rfl) (by kernel_rfl) rfl (by kernel_rfl) (by kernel_rfl) (ints32 a1 a2 k1 k2 (by have := E.lst_len m1; omega) w3 ((hr1.later hb2).later hb3) hr2) ?_
     rintro e w4 ⟨htl, hb4⟩
     have h4 : Below W4.heap.size W4 w4 := nx h3 hb4
     obtain rfl := told_eqI htl
     refine ⟨_, w4.heap.size, rfl, hb4.size, hb4, ?_⟩
     refine U.Reg.take (fun _ _ _ _ _ h => h) 10 _ 36 (.bool true) rfl (by kernel_rfl) (by kernel_rfl) (by kernel_rfl) rfl (by kernel_rfl) (by kernel_rfl) (fun _ _ => Rcl.mv rfl rfl) ?_
     refine U.Reg.take (fun _ _ _ _ _ h => h) 11 _ 37 (.agg #[.int .i64 d.k, .int .i64 d.a, .slice d.sp d.sl d.sc, .string d.n, .slice d.kp d.kl d.kc]) rfl (by kernel_rfl) (by kernel_rfl) (by kernel_rfl) rfl (by kernel_rfl) (by kernel_rfl) (fun w' hb => Reg.ldN rfl rfl (KX w' (nx h4 hb))) ?_
     refine U.Reg.take (fun _ _ _ _ _ h => h) 12 _ 38 (.slice ao xs.length cap) rfl (by kernel_rfl) (by kernel_rfl) (by kernel_rfl) rfl (by kernel_rfl) (by kernel_rfl) (fun _ _ => Rcl.mv rfl rfl) ?_
     refine U.Reg.take (fun _ _ _ _ _ h => h) 13 _ 39 (.int .i64 f) rfl (by kernel_rfl) (by kernel_rfl) (by kernel_rfl) rfl (by kernel_rfl) (by kernel_rfl) (fun _ _ => Rcl.mv rfl rfl) ?_
     refine U.Reg.take (fun _ _ _ _ _ h => h) 15 _ 41 (.agg #[.int .i64 d.k, .int .i64 d.a, .slice d.sp d.sl d.sc, .string d.n, .slice d.kp d.kl d.kc]) rfl (by kernel_rfl) (by kernel_rfl) (by kernel_rfl) rfl (by kernel_rfl) (by kernel_rfl) (fun w' hb => Reg.ldN rfl rfl (KX w' (nx h4 hb))) ?_
     refine U.Reg.take (fun _ _ _ _ _ h => h) 16 _ 42 (.slice ao xs.length cap) rfl (by kernel_rfl) (by kernel_rfl) (by kernel_rfl) rfl (by kernel_rfl) (by kernel_rfl) (fun _ _ => Rcl.mv rfl rfl) ?_
     refine U.Reg.take (fun _ _ _ _ _ h => h) 17 _ 43 (.int .i64 f) rfl (by kernel_rfl) (by kernel_rfl) (by kernel_rfl) rfl (by kernel_rfl) (by kernel_rfl) (fun _ _ => Rcl.mv rfl rfl) ?_
     refine U.Reg.call 14 _ 40 36 _ _ #[.agg #[.int .i64 d.k, .int .i64 d.a, .slice d.sp d.sl d.sc, .string d.n, .slice d.kp d.kl d.kc], .slice ao xs.length cap, .int .i64 f] rfl (by kernel_rfl) rfl (by kernel_rfl) (by kernel_rfl) rfl (by kernel_rfl) (by kernel_rfl) (c36 w4 h4) ?_
     rintro e w5 ⟨⟨v3, zs3, rfl, ho3, he3⟩, hb5⟩
     have h5 : Below W4.heap.size W4 w5 := nx h4 hb5
     have e3 := E3 zs3 he3
     obtain ⟨a3, k3, rfl, hr3⟩ := ho3.rd
     subst e3
     refine ⟨_, w5.heap.size, rfl, hb5.size, hb5, ?_⟩
     refine U.Reg.call 18 _ 44 37 _ _ #[.agg #[.int .i64 d.k, .int .i64 d.a, .slice d.sp d.sl d.sc, .string d.n, .slice d.kp d.kl d.kc], .slice ao xs.length cap, .int .i64 f] rfl (by kernel_rfl) rfl (by kernel_rfl) (by kernel_rfl) rfl (by kernel_rfl) (by kernel_rfl) (c37 w5 h5) ?_
     rintro e w6 ⟨rfl, hb6⟩
     have h6 : Below W4.heap.size W4 w6 := nx h5 hb6
     refine ⟨_, w6.heap.size, rfl, hb6.size, hb6, ?_⟩
     refine U.Reg.call 19 _ 45 34 _ _ #[.int .u64 (m2 : Int)] rfl (by kernel_rfl) rfl (by kernel_rfl) (by kernel_rfl) rfl (by kernel_rfl) (by kernel_rfl) (list34 m2 hm2 w6) ?_
     rintro e w7 ⟨v4, rfl, ho4, hb7⟩
     have h7 : Below W4.heap.size W4 w7 := nx h6 hb7
     obtain ⟨a4, k4, rfl, hr4⟩ := ho4.rd
     refine ⟨_, w7.heap.size, rfl, hb7.size, hb7, ?_⟩
     refine U.Reg.call 20 _ 46 32 _ _ #[.slice a3 (E.lst m2).length k3, .slice a4 (E.lst m2).length k4] rfl (by kernel_rfl) rfl (by kernel_rfl) (by kernel_rfl) rfl (by kernel_rfl) (by kernel_rfl) (ints32 a3 a4 k3 k4 (by have := E.lst_len m2; omega) w7 ((hr3.later hb6).later hb7) hr4) ?_
     rintro e w8 ⟨htl2, hb8⟩
     have h8 : Below W4.heap.size W4 w8 := nx h7 hb8
     obtain rfl := told_eqI htl2
     refine ⟨_, w8.heap.size, rfl, hb8.size, hb8, ?_⟩
     refine U.Reg.take (fun _ _ _ _ _ h => h) 21 _ 47 (.bool true) rfl (by kernel_rfl) (by kernel_rfl) (by kernel_rfl) rfl (by kernel_rfl) (by kernel_rfl) (fun _ _ => by kernel_rfl) ?_
     refine U.Reg.take (fun _ _ _ _ _ h => h) 22 _ 48 (.bool true) rfl (by kernel_rfl) (by kernel_rfl) (by kernel_rfl) rfl (by kernel_rfl) (by kernel_rfl) (fun _ _ => Rcl.mv rfl rfl) ?_
     refine U.Reg.take (fun _ _ _ _ _ h => h) 23 _ 49 (.agg #[.int .i64 d.k, .int .i64 d.a, .slice d.sp d.sl d.sc, .string d.n, .slice d.kp d.kl d.kc]) rfl (by kernel_rfl) (by kernel_rfl) (by kernel_rfl) rfl (by kernel_rfl) (by kernel_rfl) (fun w' hb => Reg.ldN rfl rfl (KX w' (nx h8 hb))) ?_
     refine U.Reg.take (fun _ _ _ _ _ h => h) 24 _ 50 (.slice ao xs.length cap) rfl (by kernel_rfl) (by kernel_rfl) (by kernel_rfl) rfl (by kernel_rfl) (by kernel_rfl) (fun _ _ => Rcl.mv rfl rfl) ?_
     refine U.Reg.take (fun _ _ _ _ _ h => h) 26 _ 52 (.agg #[.int .i64 d.k, .int .i64 d.a, .slice d.sp d.sl d.sc, .string d.n, .slice d.kp d.kl d.kc]) rfl (by kernel_rfl) (by kernel_rfl) (by kernel_rfl) rfl (by kernel_rfl) (by kernel_rfl) (fun w' hb => Reg.ldN rfl rfl (KX w' (nx h8 hb))) ?_
     refine U.Reg.take (fun _ _ _ _ _ h => h) 27 _ 53 (.slice ao xs.length cap) rfl (by kernel_rfl) (by kernel_rfl) (by kernel_rfl) rfl (by kernel_rfl) (by kernel_rfl) (fun _ _ => Rcl.mv rfl rfl) ?_
     refine U.Reg.call 25 _ 51 26 _ _ #[.agg #[.int .i64 d.k, .int .i64 d.a, .slice d.sp d.sl d.sc, .string d.n, .slice d.kp d.kl d.kc], .slice ao xs.length cap] rfl (by kernel_rfl) rfl (by kernel_rfl) (by kernel_rfl) rfl (by kernel_rfl) (by kernel_rfl) (c26 w8 h8) ?_
     rintro e w9 ⟨hq1, hb9⟩
     have h9 : Below W4.heap.size W4 w9 := nx h8 hb9
     obtain rfl := told_dec hq1
     refine ⟨_, w9.heap.size, rfl, hb9.size, hb9, ?_⟩
     refine U.Reg.call 28 _ 54 38 _ _ #[.agg #[.int .i64 d.k, .int .i64 d.a, .slice d.sp d.sl d.sc, .string d.n, .slice d.kp d.kl d.kc], .slice ao xs.length cap] rfl (by kernel_rfl) rfl (by kernel_rfl) (by kernel_rfl) rfl (by kernel_rfl) (by kernel_rfl) (c38 w9 h9) ?_
     rintro e w10 ⟨hq2, hb10⟩
     have h10 : Below W4.heap.size W4 w10 := nx h9 hb10
     obtain rfl := told_dec hq2
     refine ⟨_, w10.heap.size, rfl, hb10.size, hb10, ?_⟩
     refine U.Reg.take (fun _ _ _ _ _ h => h) 29 _ 55 (.bool true) rfl (by kernel_rfl) (by kernel_rfl) (by kernel_rfl) rfl (by kernel_rfl) (by kernel_rfl) (fun _ _ => Reg.eqTT8 rfl rfl rfl) ?_
     refine U.Reg.take (fun _ _ _ _ _ h => h) 30 _ 56 (.bool true) rfl (by kernel_rfl) (by kernel_rfl) (by kernel_rfl) rfl (by kernel_rfl) (by kernel_rfl) (fun _ _ => by kernel_rfl) ?_
     refine U.Reg.take (fun _ _ _ _ _ h => h) 31 _ 57 (.bool true) rfl (by kernel_rfl) (by kernel_rfl) (by kernel_rfl) rfl (by kernel_rfl) (by kernel_rfl) (fun _ _ => Rcl.mv rfl rfl) ?_
     refine U.Reg.take (fun _ _ _ _ _ h => h) 32 _ 58 (.agg #[.int .i64 d.k, .int .i64 d.a, .slice d.sp d.sl d.sc, .string d.n, .slice d.kp d.kl d.kc]) rfl (by kernel_rfl) (by kernel_rfl) (by kernel_rfl) rfl (by kernel_rfl) (by kernel_rfl) (fun w' hb => Reg.ldN rfl rfl (KX w' (nx h10 hb))) ?_
     refine U.Reg.take (fun _ _ _ _ _ h => h) 34 _ 60 (.bool false) rfl (by kernel_rfl) (by kernel_rfl) (by kernel_rfl) rfl (by kernel_rfl) (by kernel_rfl) (fun _ _ => Rcl.mv rfl rfl) ?_
     refine U.Reg.call 33 _ 59 39 _ _ #[.agg #[.int .i64 d.k, .int .i64 d.a, .slice d.sp d.sl d.sc, .string d.n, .slice d.kp d.kl d.kc]] rfl (by kernel_rfl) rfl (by kernel_rfl) (by kernel_rfl) rfl (by kernel_rfl) (by kernel_rfl) (c39 w10 h10) ?_
     rintro e w11 ⟨hq3, hb11⟩
     have h11 : Below W4.heap.size W4 w11 := nx h10 hb11
     obtain rfl := told_dec hq3
     refine ⟨_, w11.heap.size, rfl, hb11.size, hb11, ?_⟩
     refine U.Reg.take (fun _ _ _ _ _ h => h) 35 _ 61 (.bool false) rfl (by kernel_rfl) (by kernel_rfl) (by kernel_rfl) rfl (by kernel_rfl) (by kernel_rfl) (fun _ _ => Rcl.mv rfl rfl) ?_
     refine U.Reg.skip (fun _ _ _ _ _ h => h) 36 _ 62 rfl (by kernel_rfl) (by kernel_rfl) (by kernel_rfl) rfl (by kernel_rfl) (by kernel_rfl) ?_
     refine U.Reg.skip (fun _ _ _ _ _ h => h) 37 _ 63 rfl (by kernel_rfl) (by kernel_rfl) (by kernel_rfl) rfl (by kernel_rfl) (by kernel_rfl) ?_
     refine U.Reg.take (fun _ _ _ _ _ h => h) 38 _ 64 (.bool false) rfl (by kernel_rfl) (by kernel_rfl) (by kernel_rfl) rfl (by kernel_rfl) (by kernel_rfl) (fun _ _ => by kernel_rfl) ?_
     refine U.Reg.take (fun _ _ _ _ _ h => h) 39 _ 65 (.bool true) rfl (by kernel_rfl) (by kernel_rfl) (by kernel_rfl) rfl (by kernel_rfl) (by kernel_rfl) (fun _ _ => Reg.eqTT8 rfl (congrArg Value.bool HNN.out) rfl) ?_
     refine U.Reg.take (fun _ _ _ _ _ h => h) 40 _ 66 (.bool true) rfl (by kernel_rfl) (by kernel_rfl) (by kernel_rfl) rfl (by kernel_rfl) (by kernel_rfl) (fun _ _ => by kernel_rfl) ?_
     refine U.Reg.take (fun _ _ _ _ _ h => h) 41 _ 6 (.bool true) rfl (by kernel_rfl) (by kernel_rfl) (by kernel_rfl) rfl (by kernel_rfl) (by kernel_rfl) (fun _ _ => by kernel_rfl) ?_
     refine U.Reg.done (by kernel_rfl) ?_
     simp only [U.Reg.ov, Act.put, List.setIfInBounds_toArray, List.set_cons_succ, List.set_cons_zero]
     have hBf := nx B4 h11
     clear c33 c35 c36 c37 c26 c38 c38n c39 KX
     go_wp2
     go_ret
     exact ⟨rfl, hBf⟩
end Go.Proofs.YtemanednddhfaaaGreatDoor
