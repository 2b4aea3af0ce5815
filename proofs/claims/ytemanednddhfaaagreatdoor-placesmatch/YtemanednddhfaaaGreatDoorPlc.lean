/- Places of regex. -/
import Derived.Test.YtemanednddhfaaaGreatDoorNds
namespace Go.Proofs.YtemanednddhfaaaGreatDoor
open Go.RowKit Go.Shelf
open E (T)
attribute [local go_sem] Oper.semAt_some
namespace E
def cnt (ps : List (T × T)) : Nat := ps.countP fun p => decide (p.1.kind = 1)
theorem cnt_le (ps : List (T × T)) : cnt ps ≤ ps.length := List.countP_le_length
theorem cnt_snoc (ps : List (T × T)) (p : T × T) : cnt (ps ++ [p]) = cnt ps + if p.1.kind = 1 then 1 else 0 := by
 simp [cnt, List.countP_append]
end E
theorem TR.kindE {w : World} {ok : Nat → Prop} {t : T} {d : ND} (h : TR w ok t d.v) : d.k = t.kind := by
 obtain ⟨d', e, h1, _⟩ := h.nd
 unfold ND.v at e
 simp only [Value.agg.injEq, Array.mk.injEq, List.cons.injEq, Value.int.injEq] at e
 rw [← h1]
 exact e.1.2
set_option maxRecDepth 100000 in
set_option maxHeartbeats 8000000 in
theorem places_in (t : T) (d : ND) (w : World) (hT : TR w (fun _ => True) t d.v) (hps : (E.pre t t).length ≤ 1000000) :
   CallsIn Fence.wide 9 Tryz.prog 48 #[d.v] w fun e W' => e = .returned (.int .i64 (E.cnt (E.pre t t) : Int)) ∧ Below w.heap.size w W' := by
 have hmk := fun W => nodes_make d W
 unfold ND.v at hmk
 refine callsIn_of_wp_marks Tryz.func48 rfl trivial ?_ rfl
 simp only [ND.v, Tryz.ntmps48, List.size_toArray, List.length_cons, List.length_nil, Nat.reduceAdd, Nat.reduceSub, Array.replicate_succ, Array.replicate_zero, List.push_toArray, List.append_toArray, List.nil_append, List.cons_append]
 gi_wp2_with (refine ⟨trivial, ?_⟩; gi_at_call 76; refine (callsIn_wide.2 (hmk _)).mono ?_; rintro e w2 ⟨rfl, rfl⟩)
 have a1 := al1 w (.cells #[.int .i64 d.k, .int .i64 d.a, .slice d.sp d.sl d.sc, .string d.n, .slice d.kp d.kl d.kc] 26)
 have s1 : (w.alloc (.cells #[.int .i64 d.k, .int .i64 d.a, .slice d.sp d.sl d.sc, .string d.n, .slice d.kp d.kl d.kc] 26)).heap.size = w.heap.size + 1 := by simp
 obtain ⟨X1, hX1⟩ : ∃ X1, w.alloc (.cells #[.int .i64 d.k, .int .i64 d.a, .slice d.sp d.sl d.sc, .string d.n, .slice d.kp d.kl d.kc] 26) = X1 := ⟨_, rfl⟩
 rw [hX1] at a1 s1 ⊢
 have a2 := al1 X1 (.cells #[.int .i64 0] 3)
 have n2 := heap_alloc_new X1 (.cells #[.int .i64 0] 3)
 have s2 : (X1.alloc (.cells #[.int .i64 0] 3)).heap.size = w.heap.size + 2 := by simp [s1]
 obtain ⟨X2, hX2⟩ : ∃ X2, X1.alloc (.cells #[.int .i64 0] 3) = X2 := ⟨_, rfl⟩
 rw [hX2] at a2 n2 s2 ⊢
 rw [s1] at n2
 have a3 := al1 X2 (.cells #[.int .i64 d.k, .int .i64 d.a, .slice d.sp d.sl d.sc, .string d.n, .slice d.kp d.kl d.kc] 26)
 have n3 := heap_alloc_new X2 (.cells #[.int .i64 d.k, .int .i64 d.a, .slice d.sp d.sl d.sc, .string d.n, .slice d.kp d.kl d.kc] 26)
 have s3 : (X2.alloc (.cells #[.int .i64 d.k, .int .i64 d.a, .slice d.sp d.sl d.sc, .string d.n, .slice d.kp d.kl d.kc] 26)).heap.size = w.heap.size + 3 := by simp [s2]
 obtain ⟨X3, hX3⟩ : ∃ X3, X2.alloc (.cells #[.int .i64 d.k, .int .i64 d.a, .slice d.sp d.sl d.sc, .string d.n, .slice d.kp d.kl d.kc] 26) = X3 := ⟨_, rfl⟩
 rw [hX3] at a3 n3 s3 ⊢
 rw [s2] at n3
 have n2' := (a3.block (w.heap.size + 1) (by omega)).trans n2
 have bX := nx a1 (nx a2 a3)
 have z3 : w.heap.size + 3 ≤ X3.heap.size := by omega
 clear hX1 hX2 hX3 a1 a2 a3 n2 s1 s2 s3
 refine enter3 (gf := 109) (lb := #[.pointer (some ⟨w.heap.size + 1 + 1, 0, none⟩)]) rfl (enters_of Tryz.func109 (by kernel_rfl) rfl) ?_
 intro r We hr hrec hdef hszE hbE
 have bE := nx bX hbE
 refine (nodes_in 8 (by omega) w t d hT hps (w.heap.size + 2) (w.heap.size + 2) (X3.heap.size + 1) (by omega) (Nat.le_refl _)
   (fun i A => A.heap[w.heap.size + 1]? = some (.cells #[.int .i64 (E.cnt ((E.pre t t).take i) : Int)] 3) ∧ A.heap[X3.heap.size + 1]? = some (.loop r) ∧ A.heap[X3.heap.size]? = some (.deferred (some [])) ∧ Below w.heap.size w A)
   (fun _ _ => False) We ((hbE.block _ (by omega)).trans n3) bE ?stable (fun _ _ _ h => h.elim) ?round (by omega) ?start).mono ?_
 case stable =>
   rintro i A A' ⟨j1, j2, j3, j4⟩ hb
   exact ⟨(hb.below.block _ (by omega)).trans j1, (hb.below.block _ (by omega)).trans j2, (hb.below.block _ (by omega)).trans j3, j4.trans (hb.below.mono (by omega))⟩
 case start => exact ⟨(hbE.block _ (by omega)).trans n2', hrec.out, hdef.out, bE⟩
 case round =>
   rintro i hi A d1 ⟨j1, j2, j3, j4⟩ hle hBA ht1
   have hkd := ht1.kindE
   have HTK : Hid (E.cnt ((E.pre t t).take (i + 1)) = E.cnt ((E.pre t t).take i) + if (E.pre t t)[i].1.kind = 1 then 1 else 0) := hide (by rw [List.take_succ_eq_append_getElem hi, E.cnt_snoc])
   have hcl := E.cnt_le ((E.pre t t).take i)
   rw [List.length_take] at hcl
   have hc6 : E.cnt ((E.pre t t).take i) ≤ 1000000 := by omega
   have HTK2 := hide HTK.out
   rw [← hkd] at HTK2
   obtain ⟨cc, hcc⟩ : ∃ cc, E.cnt ((E.pre t t).take i) = cc := ⟨_, rfl⟩
   rw [hcc] at hc6 j1 HTK2
   clear hcl HTK hcc hkd
   refine yield3 hr j2 rfl ?_
   unfold ND.v
   gi_wp2
   have hl1 : X3.heap.size + 1 < A.heap.size := (Array.getElem?_eq_some_iff.1 j2).1
   have ha := al1 A (.cells #[.int .i64 d1.k, .int .i64 d1.a, .slice d1.sp d1.sl d1.sc, .string d1.n, .slice d1.kp d1.kl d1.kc] 26)
   have hx3 := heap_alloc_new A (.cells #[.int .i64 d1.k, .int .i64 d1.a, .slice d1.sp d1.sl d1.sc, .string d1.n, .slice d1.kp d1.kl d1.kc] 26)
   refine ⟨(ha.block _ hl1).trans j2, ?_⟩
   intro rb
   have hne : ∀ k, k ≠ X3.heap.size + 1 → ((A.alloc (.cells #[.int .i64 d1.k, .int .i64 d1.a, .slice d1.sp d1.sl d1.sc, .string d1.n, .slice d1.kp d1.kl d1.kc] 26)).putObj (X3.heap.size + 1) (.loop rb)).heap[k]? = (A.alloc (.cells #[.int .i64 d1.k, .int .i64 d1.a, .slice d1.sp d1.sl d1.sc, .string d1.n, .slice d1.kp d1.kl d1.kc] 26)).heap[k]? := fun k hk => World.putObj_heap_other hk
   have k3 : Hid (((A.alloc (.cells #[.int .i64 d1.k, .int .i64 d1.a, .slice d1.sp d1.sl d1.sc, .string d1.n, .slice d1.kp d1.kl d1.kc] 26)).putObj (X3.heap.size + 1) (.loop rb)).heap[X3.heap.size + 1]? = some (.loop rb)) := World.putObj_heap_same (by simp; omega)
   have k1 := (hne (w.heap.size + 1) (by omega)).trans ((ha.block _ (by omega)).trans j1)
   have kx := (hne A.heap.size (by omega)).trans hx3
   have ksame : Hid (∀ k, k < A.heap.size → k ≠ X3.heap.size + 1 → ((A.alloc (.cells #[.int .i64 d1.k, .int .i64 d1.a, .slice d1.sp d1.sl d1.sc, .string d1.n, .slice d1.kp d1.kl d1.kc] 26)).putObj (X3.heap.size + 1) (.loop rb)).heap[k]? = A.heap[k]?) := hide (fun k hk hk' => (hne k hk').trans (ha.block k hk))
   have kz : A.heap.size < ((A.alloc (.cells #[.int .i64 d1.k, .int .i64 d1.a, .slice d1.sp d1.sl d1.sc, .string d1.n, .slice d1.kp d1.kl d1.kc] 26)).putObj (X3.heap.size + 1) (.loop rb)).heap.size := (Array.getElem?_eq_some_iff.1 kx).1
   have kb : Below w.heap.size A ((A.alloc (.cells #[.int .i64 d1.k, .int .i64 d1.a, .slice d1.sp d1.sl d1.sc, .string d1.n, .slice d1.kp d1.kl d1.kc] 26)).putObj (X3.heap.size + 1) (.loop rb)) := (ha.mono (by omega)).trans (below_put _ _ (by omega))
   obtain ⟨A1, hA1⟩ : ∃ A1, (A.alloc (.cells #[.int .i64 d1.k, .int .i64 d1.a, .slice d1.sp d1.sl d1.sc, .string d1.n, .slice d1.kp d1.kl d1.kc] 26)).putObj (X3.heap.size + 1) (.loop rb) = A1 := ⟨_, rfl⟩
   rw [hA1] at k3 k1 kx kb ksame kz ⊢
   clear hA1 hne ha hx3
   have KB := hide kb
   have HJ2 := hide j2
   have HJ3 := hide j3
   have HJ4 := hide j4
   obtain ⟨q0, q1, q2, q3, q4⟩ := cells_five kx
   have cc1 : A1.cell? ⟨w.heap.size + 1, 0, none⟩ = some (.int .i64 (cc : Int)) := by simp [World.cell?, k1]
   have cf1 : A1.frozen? ⟨w.heap.size + 1, 0, none⟩ = false := by simp [World.frozen?, k1]
   have K1 := hide k1
   clear j1 j2 j3 j4 kb k1
   have fin : ∀ (W4 : World) (c : Nat), W4.heap[w.heap.size + 1]? = some (.cells #[.int .i64 (c : Int)] 3) → (∀ k, k ≠ w.heap.size + 1 → W4.heap[k]? = A1.heap[k]?) → W4.heap.size = A1.heap.size → (W4.os = A1.os ∧ W4.tape = A1.tape ∧ W4.output = A1.output) → E.cnt ((E.pre t t).take (i + 1)) = c →
       W4.heap[X3.heap.size + 1]? = some (.loop rb) ∧ Fr w.heap.size (w.heap.size + 2) A (W4.putObj (X3.heap.size + 1) (.loop r)) ∧ (W4.putObj (X3.heap.size + 1) (.loop r)).heap[w.heap.size + 1]? = some (.cells #[.int .i64 (E.cnt ((E.pre t t).take (i + 1)) : Int)] 3) ∧ (W4.putObj (X3.heap.size + 1) (.loop r)).heap[X3.heap.size + 1]? = some (.loop r) ∧ (W4.putObj (X3.heap.size + 1) (.loop r)).heap[X3.heap.size]? = some (.deferred (some [])) ∧ Below w.heap.size w (W4.putObj (X3.heap.size + 1) (.loop r)) := by
     intro W4 c h1 h2 h3 h4 h5
     have m3 := (h2 (X3.heap.size + 1) (by omega)).trans k3.out
     have hnp : ∀ k, k ≠ X3.heap.size + 1 → (W4.putObj (X3.heap.size + 1) (.loop r)).heap[k]? = W4.heap[k]? := fun k hk => World.putObj_heap_other hk
     have hsame : (W4.putObj (X3.heap.size + 1) (.loop r)).heap[X3.heap.size + 1]? = some (.loop r) := World.putObj_heap_same (Array.getElem?_eq_some_iff.1 m3).1
     have hlow : Below w.heap.size A (W4.putObj (X3.heap.size + 1) (.loop r)) := ⟨h4.1.trans KB.out.os, h4.2.1.trans KB.out.tape, h4.2.2.trans KB.out.output, by rw [World.putObj_size]; omega, fun k hk => by rw [hnp k (by omega), h2 k (by omega)]; exact KB.out.block k hk⟩
     refine ⟨m3, ⟨hlow.os, hlow.tape, hlow.output, hlow.size, hlow.block, fun k hk hk' _ => ?_⟩, by rw [hnp _ (by omega), h1, h5], hsame, by rw [hnp _ (by omega), h2 _ (by omega), ksame.out _ (by omega) (by omega)]; exact HJ3.out, HJ4.out.trans hlow⟩
     by_cases he : k = X3.heap.size + 1
     · rw [he, hsame]; exact HJ2.out.symm
     · rw [hnp k he, h2 k (by omega)]
       exact ksame.out k hk' he
   have FIN := hide fin
   clear fin
   by_cases hk1 : d1.k = 1
   · have e1 : (d1.k == 1) = true := by simp [hk1]
     rw [if_pos hk1] at HTK2
     clear hk1
     gi_wp2
     obtain ⟨f1, f2, f3, f4, f5, f6⟩ := FIN.out (A1.setCell ⟨w.heap.size + 1, 0, none⟩ (.int .i64 ((cc : Int) + 1))) (cc + 1) (by rw [show ((cc + 1 : Nat) : Int) = (cc : Int) + 1 by omega]; simp [World.setCell, Array.getElem?_modify, K1.out]) (fun k hk => Below.heap_setCell A1 ⟨w.heap.size + 1, 0, none⟩ _ k hk) (by simp [World.setCell]) ⟨rfl, rfl, rfl⟩ HTK2.out
     exact ⟨f1, rfl, f2, f3, f4, f5, f6⟩
   · have e1 : (d1.k == 1) = false := by simp [hk1]
     rw [if_neg hk1] at HTK2
     clear hk1
     gi_wp2
     obtain ⟨f1, f2, f3, f4, f5, f6⟩ := FIN.out A1 cc K1.out (fun _ _ => rfl) rfl ⟨rfl, rfl, rfl⟩ HTK2.out
     exact ⟨f1, rfl, f2, f3, f4, f5, f6⟩
 rintro e W' ⟨hv, h⟩
 refine ⟨hv, ?_⟩
 rcases h with ⟨j1, j2, j3, j4⟩ | ⟨_, _, h⟩
 · rw [List.take_length] at j1
   refine .inl ⟨j2, fun r' => ?_⟩
   have hnp : ∀ k, k ≠ X3.heap.size + 1 → (W'.putObj (X3.heap.size + 1) (.loop r')).heap[k]? = W'.heap[k]? := fun k hk => World.putObj_heap_other hk
   have k1 := (hnp (w.heap.size + 1) (by omega)).trans j1
   have k3 := (hnp X3.heap.size (by omega)).trans j3
   have k4 := j4.trans (below_put (n := w.heap.size) W' (.loop r') (show w.heap.size ≤ X3.heap.size + 1 by omega))
   generalize W'.putObj (X3.heap.size + 1) (.loop r') = W9 at *
   have c1 : W9.cell? ⟨w.heap.size + 1, 0, none⟩ = some (.int .i64 (E.cnt (E.pre t t) : Int)) := by simp [World.cell?, k1]
   gi_wp2
   refine ⟨by simp, .inl ⟨_, _, rfl, run_takeDeferred k3, ?_⟩⟩
   exact ⟨_, results_tmp rfl _ _ _, rfl, k4.trans (below_put _ _ (by omega))⟩
 · exact h.elim
theorem places_any (t : T) (d : ND) (w : World) (hT : TR w (fun _ => True) t d.v) (hps : (E.pre t t).length ≤ 1000000) :
   Calls Tryz.prog 48 #[d.v] w fun e W' => e = .returned (.int .i64 (E.cnt (E.pre t t) : Int)) ∧ Below w.heap.size w W' := callsIn_wide.1 (places_in t d w hT hps)
end Go.Proofs.YtemanednddhfaaaGreatDoor
