/- Same of regex. -/
import Derived.Test.YteaaijhppmkfeaaGreatDoorRBkp
import Derived.Test.YteaaijhppmkfeaaGreatDoorRUSame
namespace Go.Proofs.YteaaijhppmkfeaaGreatDoor.U
open Go.RowKit Go.Shelf
set_option maxRecDepth 100000 in
set_option maxHeartbeats 4000000 in
theorem equal23_any (ao bo : Option Addr) (ca cb : Nat) (xs ys : List S.R) (hl : xs.length ≤ 9223372036854775807) (w : World) (h : RdR w ao xs) (h2 : RdR w bo ys) :
   Calls Tryz.prog 94 #[.slice ao xs.length ca, .slice bo ys.length cb] w fun e w' => Told (xs = ys) e ∧ Below w.heap.size w w' := by
 by_cases hne : xs.length = ys.length
 · have hq : ((xs.length : Int) != (ys.length : Int)) = false := by simp [hne]
   have HNE := hide hne
   clear hne
   go_enter Tryz.func94, Tryz.ntmps94
   go_wp2
   go_loopw [13] (fun p wr => ∃ k : Nat, p = .int .i64 (k : Int) ∧ k ≤ xs.length ∧ Hid (xs.take k = ys.take k) ∧ Below w.heap.size w wr) (fun p _ => xs.length - (intOf p).toNat)
   case atStart => exact ⟨0, rfl, Nat.zero_le _, rfl, Below.refl _ _⟩
   case round =>
     obtain ⟨k, rfl, hk, HE, hB⟩ := hrel
     by_cases hlt : k < xs.length
     · have hlt2 : k < ys.length := by rw [← HNE.out]; exact hlt
       obtain ⟨b, off, rfl, hd1, hd2⟩ := (h.later hB) k hlt
       obtain ⟨b', off', rfl, hf1, hf2⟩ := (h2.later hB) k hlt2
       have HX : Hid (xs.take (k + 1) = xs.take k ++ [xs[k]]) := List.take_succ_eq_append_getElem hlt
       have HY : Hid (ys.take (k + 1) = ys.take k ++ [ys[k]]) := List.take_succ_eq_append_getElem hlt2
       have HXe : Hid (xs = ys → xs[k] = ys[k]) := fun e => by simp only [e]
       generalize xs[k] = x at *
       generalize ys[k] = y at *
       obtain ⟨x1, x2⟩ := x
       obtain ⟨y1, y2⟩ := y
       simp only at hd1 hd2 hf1 hf2
       clear h h2
       by_cases e1 : x1 = y1
       · subst e1
         by_cases e2 : x2 = y2
         · subst e2
           go_wp2_with fail
           go_quiet (fail)
           go_wp2
           go_roundw
           case rel => exact ⟨k + 1, by go_num, by omega, by show _ = _; rw [HX.out, HY.out, HE.out], below_drewN hB nq⟩
           case measure => simp [intOf]; omega
         · have HN : Hid (¬ xs = ys) := fun e => e2 (congrArg Prod.snd (HXe.out e))
           have e3 : (x2 == y2) = false := by simpa using e2
           go_wp2_with fail
           go_quiet (fail)
           go_wp2
           go_ret
           exact ⟨told_no HN.out, below_drewN hB nq⟩
       · have HN : Hid (¬ xs = ys) := fun e => e1 (congrArg Prod.fst (HXe.out e))
         have e3 : (x1 == y1) = false := by simpa using e1
         go_wp2_with fail
         go_quiet (fail)
         go_wp2
         go_ret
         exact ⟨told_no HN.out, below_drewN hB nq⟩
     · obtain rfl : k = xs.length := by omega
       have HE2 : Hid (xs = ys) := by
         have := HE.out
         rw [List.take_length] at this
         show xs = ys
         rw [this, HNE.out, List.take_length]
       clear HE
       go_wp2
       go_ret
       exact ⟨told_yes HE2.out, hB⟩
 · have hq : ((xs.length : Int) != (ys.length : Int)) = true := by simp; omega
   have HN : Hid (¬ xs = ys) := fun e => hne (by rw [e])
   clear hne
   go_enter Tryz.func94, Tryz.ntmps94
   go_wp2
   go_ret
   exact ⟨told_no HN.out, Below.refl _ _⟩
end Go.Proofs.YteaaijhppmkfeaaGreatDoor.U
namespace Go.Proofs.YteaaijhppmkfeaaGreatDoor
open Go.RowKit Go.Shelf
open E (T)
attribute [local go_sem] Oper.semAt_some
set_option maxRecDepth 100000 in
set_option maxHeartbeats 1000000 in
theorem isLike_any (x y : T) (d e : ND) (w : World) (hx : TR w (fun _ => True) x d.v) (hy : TR w (fun _ => True) y e.v) (hl : x.set.length ≤ 9223372036854775807) : Calls Tryz.prog 62 #[d.v, e.v] w fun r w' => U.Told (E.Like x y) r ∧ Below w.heap.size w w' := by
 obtain ⟨x1, x2, x3, x4, x5⟩ := hx.parts
 obtain ⟨y1, y2, y3, y4, y5⟩ := hy.parts
 obtain ⟨dk, da, dsp, dsl, dsc, dn, dkp, dkl, dkc⟩ := d
 obtain ⟨ek, ea, esp, esl, esc, en, ekp, ekl, ekc⟩ := e
 simp only at x1 x2 x3 x4 x5 y1 y2 y3 y4 y5
 unfold ND.v
 simp only
 have HL : Hid (E.Like x y ↔ dk = ek ∧ x.name = y.name ∧ x.set = y.set ∧ dkl = ekl) := hide (by unfold E.Like; rw [x1, y1, x5, y5])
 generalize x.name = xn at *
 generalize y.name = yn at *
 generalize x.set = xs at *
 generalize y.set = ys at *
 subst x2 y2 x3 y3
 clear hx hy x1 y1 x5 y5
 generalize E.Like x y = P at *
 have a1 := al1 w (.cells #[.int .i64 dk, .int .i64 da, .slice dsp xs.length dsc, .string ⟨xn.toArray⟩, .slice dkp dkl dkc] 26)
 have n1 := heap_alloc_new w (.cells #[.int .i64 dk, .int .i64 da, .slice dsp xs.length dsc, .string ⟨xn.toArray⟩, .slice dkp dkl dkc] 26)
 have s1 : (w.alloc (.cells #[.int .i64 dk, .int .i64 da, .slice dsp xs.length dsc, .string ⟨xn.toArray⟩, .slice dkp dkl dkc] 26)).heap.size = w.heap.size + 1 := by simp
 obtain ⟨X1, hX1⟩ : ∃ X1, w.alloc (.cells #[.int .i64 dk, .int .i64 da, .slice dsp xs.length dsc, .string ⟨xn.toArray⟩, .slice dkp dkl dkc] 26) = X1 := ⟨_, rfl⟩
 rw [hX1] at a1 n1 s1
 have a2 := al1 X1 (.cells #[.int .i64 ek, .int .i64 ea, .slice esp ys.length esc, .string ⟨yn.toArray⟩, .slice ekp ekl ekc] 26)
 have n2 := heap_alloc_new X1 (.cells #[.int .i64 ek, .int .i64 ea, .slice esp ys.length esc, .string ⟨yn.toArray⟩, .slice ekp ekl ekc] 26)
 have n1' := (a2.block w.heap.size (by omega)).trans n1
 obtain ⟨X2, hX2⟩ : ∃ X2, X1.alloc (.cells #[.int .i64 ek, .int .i64 ea, .slice esp ys.length esc, .string ⟨yn.toArray⟩, .slice ekp ekl ekc] 26) = X2 := ⟨_, rfl⟩
 rw [hX2] at a2 n2 n1'
 have bW := nx a1 a2
 obtain ⟨c0, c1, c2, c3, c4⟩ := cells_five n1'
 obtain ⟨q0, q1, q2, q3, q4⟩ := cells_five n2
 have hq := U.equal23_any dsp esp dsc esc xs ys hl
 clear a1 a2 n1 n2 n1' s1
 by_cases k1 : dk = ek
 · subst k1
   by_cases k2 : xn = yn
   · subst k2
     have hq := hq X2 (x4.later bW) (y4.later bW)
     by_cases k4 : dkl = ekl
     · subst k4
       go_enter Tryz.func62, Tryz.ntmps62
       go_wp2_with fail
       refine hq.mono ?_
       rintro r X3 ⟨⟨b, rfl, hb⟩, hb3⟩
       have HB := hide hb
       have bW3 := nx bW hb3
       have c4' := (hb3.cell (p := ⟨w.heap.size, 4, none⟩) (U.cell_lt c4)).trans c4
       have q4' := (hb3.cell (p := ⟨X1.heap.size, 4, none⟩) (U.cell_lt q4)).trans q4
       clear hq hb hb3
       cases b with
       | true =>
         have HY : Hid P := hide (HL.out.2 (by have := HB.out.1 rfl; simp [this]))
         clear HL HB
         go_wp2
         go_ret
         exact ⟨U.told_yes HY.out, bW3⟩
       | false =>
         go_wp2
         go_ret
         exact ⟨U.told_no (fun h => by have := HB.out.2 (HL.out.1 h).2.2.1; cases this), bW3⟩
     · have e4 : ((dkl : Int) == (ekl : Int)) = false := by simp; omega
       have e4' : (dkl == ekl) = false := by simpa using k4
       go_enter Tryz.func62, Tryz.ntmps62
       go_wp2_with fail
       refine hq.mono ?_
       rintro r X3 ⟨⟨b, rfl, hb⟩, hb3⟩
       have HK := hide k4
       have bW3 := nx bW hb3
       have c4' := (hb3.cell (p := ⟨w.heap.size, 4, none⟩) (U.cell_lt c4)).trans c4
       have q4' := (hb3.cell (p := ⟨X1.heap.size, 4, none⟩) (U.cell_lt q4)).trans q4
       clear hq hb hb3 k4
       cases b with
       | true =>
         go_wp2
         go_ret
         exact ⟨U.told_no (fun h => HK.out (HL.out.1 h).2.2.2), bW3⟩
       | false =>
         go_wp2
         go_ret
         exact ⟨U.told_no (fun h => HK.out (HL.out.1 h).2.2.2), bW3⟩
   · have e2 : (xn == yn) = false := by simpa using k2
     have HK := hide k2
     clear k2
     go_enter Tryz.func62, Tryz.ntmps62
     go_wp2
     go_ret
     exact ⟨U.told_no (fun h => HK.out (HL.out.1 h).2.1), bW⟩
 · have e1 : (dk == ek) = false := by simpa using k1
   have HK := hide k1
   clear k1
   go_enter Tryz.func62, Tryz.ntmps62
   go_wp2
   go_ret
   exact ⟨U.told_no (fun h => HK.out (HL.out.1 h).1), bW⟩
def AllL (l : List (T × T)) : Prop := ∀ p ∈ l, E.Like p.1 p.2
theorem res26 (tmps : Array Value) (W : World) (n : Nat) (b : Bool) (h : tmps.getD 4 undef = .pointer (some ⟨n, 0, none⟩)) (hc : W.cell? ⟨n, 0, none⟩ = some (.bool b)) :
   (results Tryz.f27 tmps).run Tryz.prog W = .ok (.bool b) W := by
 rw [res_cell (p := 4) (ty := 4) rfl, h]
 simp [asAddr, loadVar, Sem.run_bind, Result.andThen, go_sem, hc]
set_option maxRecDepth 100000 in
set_option maxHeartbeats 4000000 in
theorem same_in (a b : T) (da db : ND) (w : World) (hTa : TR w (fun _ => True) a da.v) (hTb : TR w (fun _ => True) b db.v) (hps : (E.pre a b).length ≤ 1000000) (hsl : ∀ p ∈ E.pre a b, p.1.set.length ≤ 9223372036854775807) :
   CallsIn Fence.wide 9 Tryz.prog 27 #[da.v, db.v] w fun e W' => U.Told (AllL (E.pre a b)) e ∧ Below w.heap.size w W' := by
 have hmk := fun W => pairs_make da db W
 unfold ND.v at hmk
 refine callsIn_of_wp_marks Tryz.func27 rfl trivial ?_ rfl
 simp only [ND.v, Tryz.ntmps27, List.size_toArray, List.length_cons, List.length_nil, Nat.reduceAdd, Nat.reduceSub, Array.replicate_succ, Array.replicate_zero, List.push_toArray, List.append_toArray, List.nil_append, List.cons_append]
 gi_wp2_with (refine ⟨trivial, ?_⟩; gi_at_call 61; refine (callsIn_wide.2 (hmk _)).mono ?_; rintro e w2 ⟨rfl, rfl⟩)
 have a1 := al1 w (.cells #[.int .i64 da.k, .int .i64 da.a, .slice da.sp da.sl da.sc, .string da.n, .slice da.kp da.kl da.kc] 26)
 have n1 := heap_alloc_new w (.cells #[.int .i64 da.k, .int .i64 da.a, .slice da.sp da.sl da.sc, .string da.n, .slice da.kp da.kl da.kc] 26)
 have s1 : (w.alloc (.cells #[.int .i64 da.k, .int .i64 da.a, .slice da.sp da.sl da.sc, .string da.n, .slice da.kp da.kl da.kc] 26)).heap.size = w.heap.size + 1 := by simp
 obtain ⟨X1, hX1⟩ : ∃ X1, w.alloc (.cells #[.int .i64 da.k, .int .i64 da.a, .slice da.sp da.sl da.sc, .string da.n, .slice da.kp da.kl da.kc] 26) = X1 := ⟨_, rfl⟩
 rw [hX1] at a1 n1 s1 ⊢
 have a2 := al1 X1 (.cells #[.int .i64 db.k, .int .i64 db.a, .slice db.sp db.sl db.sc, .string db.n, .slice db.kp db.kl db.kc] 26)
 have n2 := heap_alloc_new X1 (.cells #[.int .i64 db.k, .int .i64 db.a, .slice db.sp db.sl db.sc, .string db.n, .slice db.kp db.kl db.kc] 26)
 have s2 : (X1.alloc (.cells #[.int .i64 db.k, .int .i64 db.a, .slice db.sp db.sl db.sc, .string db.n, .slice db.kp db.kl db.kc] 26)).heap.size = w.heap.size + 2 := by simp [s1]
 obtain ⟨X2, hX2⟩ : ∃ X2, X1.alloc (.cells #[.int .i64 db.k, .int .i64 db.a, .slice db.sp db.sl db.sc, .string db.n, .slice db.kp db.kl db.kc] 26) = X2 := ⟨_, rfl⟩
 rw [hX2] at a2 n2 s2 ⊢
 rw [s1] at n2
 have a3 := al1 X2 (.cells #[.bool false] 4)
 have n3 := heap_alloc_new X2 (.cells #[.bool false] 4)
 have s3 : (X2.alloc (.cells #[.bool false] 4)).heap.size = w.heap.size + 3 := by simp [s2]
 obtain ⟨X3, hX3⟩ : ∃ X3, X2.alloc (.cells #[.bool false] 4) = X3 := ⟨_, rfl⟩
 rw [hX3] at a3 n3 s3 ⊢
 rw [s2] at n3
 have a4 := al1 X3 (.cells #[.int .i64 da.k, .int .i64 da.a, .slice da.sp da.sl da.sc, .string da.n, .slice da.kp da.kl da.kc] 26)
 have n4 := heap_alloc_new X3 (.cells #[.int .i64 da.k, .int .i64 da.a, .slice da.sp da.sl da.sc, .string da.n, .slice da.kp da.kl da.kc] 26)
 have s4 : (X3.alloc (.cells #[.int .i64 da.k, .int .i64 da.a, .slice da.sp da.sl da.sc, .string da.n, .slice da.kp da.kl da.kc] 26)).heap.size = w.heap.size + 4 := by simp [s3]
 obtain ⟨X4, hX4⟩ : ∃ X4, X3.alloc (.cells #[.int .i64 da.k, .int .i64 da.a, .slice da.sp da.sl da.sc, .string da.n, .slice da.kp da.kl da.kc] 26) = X4 := ⟨_, rfl⟩
 rw [hX4] at a4 n4 s4 ⊢
 rw [s3] at n4
 have a5 := al1 X4 (.cells #[.int .i64 db.k, .int .i64 db.a, .slice db.sp db.sl db.sc, .string db.n, .slice db.kp db.kl db.kc] 26)
 have n5 := heap_alloc_new X4 (.cells #[.int .i64 db.k, .int .i64 db.a, .slice db.sp db.sl db.sc, .string db.n, .slice db.kp db.kl db.kc] 26)
 have s5 : (X4.alloc (.cells #[.int .i64 db.k, .int .i64 db.a, .slice db.sp db.sl db.sc, .string db.n, .slice db.kp db.kl db.kc] 26)).heap.size = w.heap.size + 5 := by simp [s4]
 obtain ⟨X5, hX5⟩ : ∃ X5, X4.alloc (.cells #[.int .i64 db.k, .int .i64 db.a, .slice db.sp db.sl db.sc, .string db.n, .slice db.kp db.kl db.kc] 26) = X5 := ⟨_, rfl⟩
 rw [hX5] at a5 n5 s5 ⊢
 rw [s4] at n5
 have n4' := (a5.block (w.heap.size + 3) (by omega)).trans n4
 have n3' := ((nx a4 a5).block (w.heap.size + 2) (by omega)).trans n3
 have bX := nx a1 (nx a2 (nx a3 (nx a4 a5)))
 have z3 : w.heap.size + 5 ≤ X5.heap.size := by omega
 clear hX1 hX2 hX3 hX4 hX5 a1 a2 a3 a4 a5 n1 n2 n3 n4 s1 s2 s3 s4 s5
 refine enter3 (gf := 93) (lb := #[.pointer (some ⟨w.heap.size + 1 + 1 + 1, 0, none⟩), .pointer (some ⟨w.heap.size + 1 + 1 + 1 + 1, 0, none⟩)]) rfl (enters_of Tryz.func93 (by kernel_rfl) rfl) ?_
 intro r We hr hrec hdef hszE hbE
 have bE := nx bX hbE
 refine (pairs_in 8 (by omega) w a b da db hTa hTb hps (w.heap.size + 3) (w.heap.size + 3) (w.heap.size + 4) (X5.heap.size + 1) (by omega) (Nat.le_refl _) (by omega)
   (fun i A => A.heap[w.heap.size + 2]? = some (.cells #[.bool false] 4) ∧ A.heap[X5.heap.size + 1]? = some (.loop r) ∧ A.heap[X5.heap.size]? = some (.deferred (some [])) ∧ Below w.heap.size w A ∧ AllL ((E.pre a b).take i))
   (fun _ A => A.heap[w.heap.size + 2]? = some (.cells #[.bool false] 4) ∧ (∃ rd : Loop, rd.state = .done ∧ rd.pending = some .ret ∧ A.heap[X5.heap.size + 1]? = some (.loop rd)) ∧ A.heap[X5.heap.size]? = some (.deferred (some [])) ∧ Below w.heap.size w A ∧ ¬ AllL (E.pre a b)) We ((hbE.block _ (by omega)).trans n4') ((hbE.block _ (by omega)).trans n5) bE ?stable ?round ?start).mono ?_
 case stable =>
   rintro i A A' ⟨j1, j2, j3, j4, j5⟩ hb
   exact ⟨(hb.below.block _ (by omega)).trans j1, (hb.below.block _ (by omega)).trans j2, (hb.below.block _ (by omega)).trans j3, j4.trans (hb.below.mono (by omega)), j5⟩
 case start => exact ⟨(hbE.block _ (by omega)).trans n3', hrec.out, hdef.out, bE, fun p hp => by simp at hp⟩
 case round =>
   rintro i hi A d1 d2 ⟨j1, j2, j3, j4, j6⟩ hle hBA ht1 ht2
   have hmem : (E.pre a b)[i] ∈ E.pre a b := List.getElem_mem hi
   have hnB := hsl _ hmem
   have HTK : Hid (∀ q ∈ (E.pre a b).take (i + 1), q ∈ (E.pre a b).take i ∨ q = (E.pre a b)[i]) := hide (by
     rw [List.take_succ_eq_append_getElem hi]
     intro q hq
     rcases List.mem_append.1 hq with h | h
     · exact .inl h
     · exact .inr (by simpa using h))
   have HNO : Hid (¬ E.Like (E.pre a b)[i].1 (E.pre a b)[i].2 → ¬ AllL (E.pre a b)) := hide (fun h h' => h (h' _ hmem))
   have HJ6 := hide j6
   clear j6 hmem
   refine yield3 hr j2 rfl ?_
   unfold ND.v
   gi_wp2
   have hl1 : X5.heap.size + 1 < A.heap.size := (Array.getElem?_eq_some_iff.1 j2).1
   have ha := al1 A (.cells #[.int .i64 d1.k, .int .i64 d1.a, .slice d1.sp d1.sl d1.sc, .string d1.n, .slice d1.kp d1.kl d1.kc] 26)
   have hx3 := heap_alloc_new A (.cells #[.int .i64 d1.k, .int .i64 d1.a, .slice d1.sp d1.sl d1.sc, .string d1.n, .slice d1.kp d1.kl d1.kc] 26)
   have hb2 := al1 (A.alloc (.cells #[.int .i64 d1.k, .int .i64 d1.a, .slice d1.sp d1.sl d1.sc, .string d1.n, .slice d1.kp d1.kl d1.kc] 26)) (.cells #[.int .i64 d2.k, .int .i64 d2.a, .slice d2.sp d2.sl d2.sc, .string d2.n, .slice d2.kp d2.kl d2.kc] 26)
   have hx4 := heap_alloc_new (A.alloc (.cells #[.int .i64 d1.k, .int .i64 d1.a, .slice d1.sp d1.sl d1.sc, .string d1.n, .slice d1.kp d1.kl d1.kc] 26)) (.cells #[.int .i64 d2.k, .int .i64 d2.a, .slice d2.sp d2.sl d2.sc, .string d2.n, .slice d2.kp d2.kl d2.kc] 26)
   have sA : (A.alloc (.cells #[.int .i64 d1.k, .int .i64 d1.a, .slice d1.sp d1.sl d1.sc, .string d1.n, .slice d1.kp d1.kl d1.kc] 26)).heap.size = A.heap.size + 1 := by simp
   rw [sA] at hx4
   have hx3' := (hb2.block A.heap.size (by omega)).trans hx3
   have hab := nx ha hb2
   have sB : ((A.alloc (.cells #[.int .i64 d1.k, .int .i64 d1.a, .slice d1.sp d1.sl d1.sc, .string d1.n, .slice d1.kp d1.kl d1.kc] 26)).alloc (.cells #[.int .i64 d2.k, .int .i64 d2.a, .slice d2.sp d2.sl d2.sc, .string d2.n, .slice d2.kp d2.kl d2.kc] 26)).heap.size = A.heap.size + 2 := by simp
   obtain ⟨A0, hA0⟩ : ∃ A0, (A.alloc (.cells #[.int .i64 d1.k, .int .i64 d1.a, .slice d1.sp d1.sl d1.sc, .string d1.n, .slice d1.kp d1.kl d1.kc] 26)).alloc (.cells #[.int .i64 d2.k, .int .i64 d2.a, .slice d2.sp d2.sl d2.sc, .string d2.n, .slice d2.kp d2.kl d2.kc] 26) = A0 := ⟨_, rfl⟩
   rw [hA0] at hx4 hx3' hab sB ⊢
   clear hA0 sA hb2 ha hx3
   refine ⟨(hab.block _ hl1).trans j2, ?_⟩
   intro rb
   have hne : ∀ k, k ≠ X5.heap.size + 1 → (A0.putObj (X5.heap.size + 1) (.loop rb)).heap[k]? = A0.heap[k]? := fun k hk => World.putObj_heap_other hk
   have k3 : Hid ((A0.putObj (X5.heap.size + 1) (.loop rb)).heap[X5.heap.size + 1]? = some (.loop rb)) := World.putObj_heap_same (by omega)
   have k1 := (hne (w.heap.size + 2) (by omega)).trans ((hab.block _ (by omega)).trans j1)
   have kx := (hne A.heap.size (by omega)).trans hx3'
   have ky := (hne (A.heap.size + 1) (by omega)).trans hx4
   have ksame : Hid (∀ k, k < A.heap.size → k ≠ X5.heap.size + 1 → (A0.putObj (X5.heap.size + 1) (.loop rb)).heap[k]? = A.heap[k]?) := hide (fun k hk hk' => (hne k hk').trans (hab.block k hk))
   have kz : A.heap.size < (A0.putObj (X5.heap.size + 1) (.loop rb)).heap.size := (Array.getElem?_eq_some_iff.1 kx).1
   have kb : Below w.heap.size A (A0.putObj (X5.heap.size + 1) (.loop rb)) := (hab.mono (by omega)).trans (below_put _ _ (by omega))
   obtain ⟨A1, hA1⟩ : ∃ A1, A0.putObj (X5.heap.size + 1) (.loop rb) = A1 := ⟨_, rfl⟩
   rw [hA1] at k3 k1 kx ky kb ksame kz ⊢
   clear hA1 hne hab hx3' hx4 sB
   have HJ2 := hide j2
   have HJ3 := hide j3
   have HJ4 := hide j4
   obtain ⟨q0, q1, q2, q3, q4⟩ := cells_five kx
   obtain ⟨o0, o1, o2, o3, o4⟩ := cells_five ky
   have hB2 := j4.trans kb
   have hin := isLike_any (E.pre a b)[i].1 (E.pre a b)[i].2 d1 d2 A1 (TR.later (fun k hk => hB2.block k hk) _ ht1) (TR.later (fun k hk => hB2.block k hk) _ ht2) hnB
   unfold ND.v at hin
   have K1 := hide k1
   have KB := hide kb
   clear kb kx ky k1 j1 j2 j3
   gi_wp2_with fail
   refine ⟨trivial, ?_⟩
   refine (CallsIn.inRound (X5.heap.size + 1) (callsIn_wide.2 hin)).mono ?_
   rintro e A3 ⟨⟨b', rfl, hb⟩, hb3⟩
   have g1 := (hb3.block _ (by omega)).trans K1.out
   have g3 := hide ((hb3.block _ (by omega)).trans k3.out)
   have gz := hb3.size
   have gs : Hid (∀ k, k < A.heap.size → k ≠ X5.heap.size + 1 → A3.heap[k]? = A.heap[k]?) := hide (fun k hk h1 => (hb3.block k (by omega)).trans (ksame.out k hk h1))
   have gb : Hid (Below w.heap.size A A3) := hide (KB.out.trans (hb3.mono (by omega)))
   have HB := hide hb
   clear hb hb3 hin
   have c1 : A3.cell? ⟨w.heap.size + 2, 0, none⟩ = some (.bool false) := by simp [World.cell?, g1]
   have c2 : A3.frozen? ⟨w.heap.size + 2, 0, none⟩ = false := by simp [World.frozen?, g1]
   cases b' with
   | true =>
     have hok := HB.out.1 rfl
     clear HB
     gi_wp2
     have hnp : ∀ k, k ≠ X5.heap.size + 1 → (A3.putObj (X5.heap.size + 1) (.loop r)).heap[k]? = A3.heap[k]? := fun k hk => World.putObj_heap_other hk
     have hsame : (A3.putObj (X5.heap.size + 1) (.loop r)).heap[X5.heap.size + 1]? = some (.loop r) := World.putObj_heap_same (Array.getElem?_eq_some_iff.1 g3.out).1
     have hlow : Below w.heap.size A (A3.putObj (X5.heap.size + 1) (.loop r)) := gb.out.trans (below_put (n := w.heap.size) A3 (.loop r) (show w.heap.size ≤ X5.heap.size + 1 by omega))
     refine ⟨g3.out, .inl ⟨rfl, ⟨hlow.os, hlow.tape, hlow.output, hlow.size, hlow.block, fun k hk hk' _ => ?_⟩, (hnp _ (by omega)).trans g1, hsame, ?_, HJ4.out.trans hlow, ?_⟩⟩
     · by_cases he : k = X5.heap.size + 1
       · rw [he, hsame]; exact HJ2.out.symm
       · rw [hnp k he]
         exact gs.out k hk' he
     · rw [hnp _ (by omega), gs.out _ (by omega) (by omega)]; exact HJ3.out
     · intro q hq
       rcases HTK.out _ hq with h | h
       · exact HJ6.out _ h
       · rw [h]; exact hok
   | false =>
     have hno := HNO.out (fun h => by have := HB.out.2 h; cases this)
     have HN := hide hno
     clear HB hno
     gi_wp2
     have m3 := (Below.heap_setCell A3 ⟨w.heap.size + 2, 0, none⟩ (.bool false) (X5.heap.size + 1) (by show X5.heap.size + 1 ≠ w.heap.size + 2; omega)).trans g3.out
     have m1 : (A3.setCell ⟨w.heap.size + 2, 0, none⟩ (.bool false)).heap[w.heap.size + 2]? = some (.cells #[.bool false] 4) := by simp [World.setCell, Array.getElem?_modify, g1]
     have m4 := (Below.heap_setCell A3 ⟨w.heap.size + 2, 0, none⟩ (.bool false) X5.heap.size (by show X5.heap.size ≠ w.heap.size + 2; omega)).trans ((gs.out _ (by omega) (by omega)).trans HJ3.out)
     have mb := (HJ4.out.trans gb.out).setCell (p := ⟨w.heap.size + 2, 0, none⟩) (by show w.heap.size ≤ w.heap.size + 2; omega) (.bool false)
     refine ⟨m3, fun rd e1 e2 => .inr ⟨rfl, (World.putObj_heap_other (by omega)).trans m1, ⟨rd, e1, e2, World.putObj_heap_same (Array.getElem?_eq_some_iff.1 m3).1⟩, (World.putObj_heap_other (by omega)).trans m4, mb.trans (below_put _ _ (by omega)), HN.out⟩⟩
 rintro e W' ⟨hv, h⟩
 refine ⟨hv, ?_⟩
 rcases h with ⟨j1, j2, j3, j4, j6⟩ | ⟨_, _, j1, ⟨rd, e1, e2, j2⟩, j3, j4, j5⟩
 · have HY : Hid (AllL (E.pre a b)) := hide (fun p hp => j6 p (by rw [List.take_length]; exact hp))
   refine .inl ⟨j2, fun r' => ?_⟩
   have hnp : ∀ k, k ≠ X5.heap.size + 1 → (W'.putObj (X5.heap.size + 1) (.loop r')).heap[k]? = W'.heap[k]? := fun k hk => World.putObj_heap_other hk
   have k1 := (hnp (w.heap.size + 2) (by omega)).trans j1
   have k3 := (hnp X5.heap.size (by omega)).trans j3
   have k4 := j4.trans (below_put (n := w.heap.size) W' (.loop r') (show w.heap.size ≤ X5.heap.size + 1 by omega))
   clear j1 j2 j3 j4 j6 hnp
   generalize W'.putObj (X5.heap.size + 1) (.loop r') = W9 at *
   have c1 : W9.cell? ⟨w.heap.size + 2, 0, none⟩ = some (.bool false) := by simp [World.cell?, k1]
   have c2 : W9.frozen? ⟨w.heap.size + 2, 0, none⟩ = false := by simp [World.frozen?, k1]
   gi_wp2
   have k3' := (Below.heap_setCell W9 ⟨w.heap.size + 2, 0, none⟩ (.bool true) X5.heap.size (by show X5.heap.size ≠ w.heap.size + 2; omega)).trans k3
   have k1' : ((W9.setCell ⟨w.heap.size + 2, 0, none⟩ (.bool true)).putObj X5.heap.size (.deferred none)).heap[w.heap.size + 2]? = some (.cells #[.bool true] 4) := by
     rw [World.putObj_heap_other (by omega)]
     simp [World.setCell, Array.getElem?_modify, k1]
   refine ⟨by simp, .inl ⟨_, _, rfl, run_takeDeferred k3', ?_⟩⟩
   exact ⟨_, res26 _ _ (w.heap.size + 2) true rfl (by simp [World.cell?, k1']), U.told_yes HY.out, (k4.setCell (p := ⟨w.heap.size + 2, 0, none⟩) (by show w.heap.size ≤ w.heap.size + 2; omega) _).trans (below_put _ _ (by omega))⟩
 · have HN := hide j5
   refine .inr ⟨rd, e1, e2, j2, fun r' => ?_⟩
   have hnp : ∀ k, k ≠ X5.heap.size + 1 → (W'.putObj (X5.heap.size + 1) (.loop r')).heap[k]? = W'.heap[k]? := fun k hk => World.putObj_heap_other hk
   have k1 := (hnp (w.heap.size + 2) (by omega)).trans j1
   have k3 := (hnp X5.heap.size (by omega)).trans j3
   have k4 := j4.trans (below_put (n := w.heap.size) W' (.loop r') (show w.heap.size ≤ X5.heap.size + 1 by omega))
   clear j1 j2 j3 j4 j5 hnp
   generalize W'.putObj (X5.heap.size + 1) (.loop r') = W9 at *
   have c1 : W9.cell? ⟨w.heap.size + 2, 0, none⟩ = some (.bool false) := by simp [World.cell?, k1]
   gi_wp2
   have k1' : (W9.putObj X5.heap.size (.deferred none)).heap[w.heap.size + 2]? = some (.cells #[.bool false] 4) := by
     rw [World.putObj_heap_other (by omega)]
     exact k1
   refine ⟨by simp, .inl ⟨_, _, rfl, run_takeDeferred k3, ?_⟩⟩
   exact ⟨_, res26 _ _ (w.heap.size + 2) false rfl (by simp [World.cell?, k1']), U.told_no HN.out, k4.trans (below_put _ _ (by omega))⟩
theorem same_any7 (a b : T) (da db : ND) (w : World) (hTa : TR w (fun _ => True) a da.v) (hTb : TR w (fun _ => True) b db.v) (hps : (E.pre a b).length ≤ 1000000) (hsl : ∀ p ∈ E.pre a b, p.1.set.length ≤ 9223372036854775807) :
   Calls Tryz.prog 27 #[da.v, db.v] w fun e W' => U.Told (AllL (E.pre a b)) e ∧ Below w.heap.size w W' := callsIn_wide.1 (same_in a b da db w hTa hTb hps hsl)
end Go.Proofs.YteaaijhppmkfeaaGreatDoor
