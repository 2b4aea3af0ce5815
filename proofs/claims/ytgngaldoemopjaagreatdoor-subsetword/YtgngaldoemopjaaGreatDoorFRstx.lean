/- Joined: Rnd Rstx. -/
import Derived.Test.YtgngaldoemopjaaGreatDoorFSqr
import Derived.Test.YtgngaldoemopjaaGreatDoorFJD
import Derived.Test.YtgngaldoemopjaaGreatDoorProg
namespace Go.Proofs.YtgngaldoemopjaaGreatDoor
open Go.RowKit
open E (T tk isS rpt beg)
theorem TR.kp {w W : World} {ok : Nat → Prop} {R : Nat} {t : T} {v : Value} (h : TR w ok t v) (hk : Kp w.heap.size R w W) (hx : NoI w R) (ho : ¬ ok R) : TR W ok t v := TR.but (fun k hk' hne => hk.block k hk' hne) hx ho t h
theorem TR.put {w : World} {ok : Nat → Prop} {R j : Nat} {t : T} {v u : Value} (h : TR w ok t v) (hx : NoI w R) (ho : ¬ ok R) : TR (w.setCell ⟨R, j, none⟩ u) ok t v := TR.but (fun _ _ hne => Below.heap_setCell _ _ _ _ hne) hx ho t h
theorem TR.putN {w : World} {ok : Nat → Prop} {b : Nat} {t : T} {v v0 v1 v2 v3 v4 : Value} (h : TR w ok t v) (hx : NoI w b) (ho : ¬ ok b) : TR (putN w b v0 v1 v2 v3 v4) ok t v := TR.but (fun _ _ hne => putN_other hne) hx ho t h
theorem TR.below {w W : World} {ok : Nat → Prop} {t : T} {v : Value} (h : TR w ok t v) (hb : Below w.heap.size w W) : TR W ok t v := TR.later (fun k hk => hb.block k hk) t h
theorem nd_noI {W : World} {b : Nat} {d : ND} (h : W.heap[b]? = some (.cells #[.int .i64 d.k, .int .i64 d.a, .slice d.sp d.sl d.sc, .string d.n, .slice d.kp d.kl d.kc] 25)) : NoI W b := noI_cells (cs := [_, _, _, _, _]) h rfl
theorem tr_none {W : World} {ok : Nat → Prop} (a : Int) : TR W ok (.mk 3 a [] [] []) (.agg #[.int .i64 3, .int .i64 a, .slice none 0 0, .string ⟨#[]⟩, .slice none 0 0]) := by
 rw [TR]
 exact ⟨none, 0, none, 0, rfl, U.rdr_nil _ _, Nat.le_refl _, by rw [KR]; trivial⟩
def CAlt (d : Nat) : Prop := ∀ (w : World) (R : Nat) (ao : Option Addr) (cap : Nat) (l : List E.Tok) (i o : Nat), Rdr w R ao cap l i o → l.length ≤ 40000 → E.Good l → o + d = 20 → Calls Tryz.prog 82 #[.pointer (some ⟨R, 0, none⟩)] w (AnsN (E.alt d l i) R ao cap l o w)
theorem roundD_succ (d : Nat) (l : List E.Tok) (i : Nat) : E.roundD (d + 1) l i = if isS (tk l (i + 1)) [41] = true then .ok (.mk 3 (tk l i).2 [] [] [], i + 2) else match E.alt d l (i + 1) with | .error e => .error e | .ok (e, j) => if isS (tk l j) [41] = true then .ok (e, j + 1) else .error (70, j) := rfl
set_option maxRecDepth 100000 in
set_option maxHeartbeats 8000000 in
theorem round_any (d : Nat) (hA : ∀ d', d = d' + 1 → CAlt d') {w : World} {R : Nat} {ao : Option Addr} {cap : Nat} {l : List E.Tok} {i o : Nat} (h : Rdr w R ao cap l i o) (hl : l.length ≤ 40000) (hg : E.Good l) (hd : o + d = 20) (hi : i < l.length) :
   Calls Tryz.prog 193 #[.pointer (some ⟨R, 0, none⟩)] w (AnsN (E.roundD d l i) R ao cap l o w) := by
 have hRl := h.lt
 have h1 := h.later (al1 w roomN)
 have hr1 : (w.alloc roomN).heap[w.heap.size]? = some roomN := heap_alloc_new w _
 have hk1 : Kp w.heap.size R w (w.alloc roomN) := Kp.of (al1 w _)
 obtain ⟨c0, c1, c2⟩ := h1.cells
 cases d with
 | zero =>
   have HO : Hid (E.roundD 0 l i = .error (71, i)) := hide rfl
   generalize E.roundD 0 l i = r at *
   have e20 : ((o : Int) == 20) = true := by simp; omega
   have HCC : ((((71 : Nat) : Int)) != 0) = true := rfl
   clear hA hd
   go_enter Tryz.func193, Tryz.ntmps193
   go_wp2
   exact bodyPost_ret (v := .tuple #[zN, .int .i64 71]) (by unfold zN; simp [results, Tryz.results193, go_sem]) rfl ⟨hk1, .inr ⟨71, i, ⟨0, 0, none, 0, 0, ⟨#[]⟩, none, 0, 0⟩, o, HO.out, rfl, HCC, h1⟩⟩
 | succ d =>
   have HI : Hid (E.roundD (d + 1) l i = _) := hide (roundD_succ d l i)
   generalize E.roundD (d + 1) l i = r at *
   have e20 : ((o : Int) == 20) = false := by simp; omega
   have hAlt := hA d rfl
   have ho : o ≤ 20 := by omega
   have HD := hide hd
   clear hA hd
   have hn := next_any h1
   obtain ⟨t, ht⟩ : ∃ t, tk l i = t := ⟨_, rfl⟩
   rw [ht] at hn HI
   clear ht
   unfold tokV at hn
   have hfl := field1 (t.1.kind : Int) (t.2 : Int) t.1.r ⟨t.1.text.toArray⟩
   go_enter Tryz.func193, Tryz.ntmps193
   go_wp2_with fail
   refine hn.mono ?_
   rintro e w1 ⟨rfl, hb1⟩
   have hR1 := h1.later hb1
   have hr2 := (hb1.block w.heap.size (by simp)).trans hr1
   have hk2 := hk1.nb (by simp) hb1
   clear hn h1 hr1 hk1 hb1
   obtain ⟨p0, p1, p2⟩ := hR1.cells
   have f1 := hR1.frz 1
   have hR2 := hR1.put (i + 1)
   have hr3 := (Below.heap_setCell w1 ⟨R, 1, none⟩ (.int .i64 ((i + 1 : Nat) : Int)) w.heap.size (by show w.heap.size ≠ R; omega)).trans hr2
   have hk3 := hk2.set (p := ⟨R, 1, none⟩) (.inl rfl) (.int .i64 ((i + 1 : Nat) : Int))
   have HE : ((i + 1 : Nat) : Int) = (i : Int) + 1 := by omega
   rw [HE] at hR2 hr3 hk3
   clear HE
   obtain ⟨w2, hw2⟩ : ∃ w2, w1.setCell ⟨R, 1, none⟩ (.int .i64 ((i : Int) + 1)) = w2 := ⟨_, rfl⟩
   rw [hw2] at hR2 hr3 hk3
   have htk := take_any hR2 (by omega) [41]
   have hlt41 : isS (tk l (i + 1)) [41] = true → i + 1 < l.length := E.isS_lt
   cases hq : isS (tk l (i + 1)) [41] with
   | true =>
     rw [hq] at htk HI hlt41
     rw [if_pos rfl] at HI htk
     clear hlt41 hq hAlt
     go_wp2_with fail
     refine htk.mono ?_
     rintro e w3 ⟨rfl, hR3, hk4⟩
     have hr4 := hk4.keep hr3 (by omega)
     have hk5 := hk3.nx hk3.size hk4
     clear hk4 htk hr3 hk3
     obtain ⟨q0, q1, q2, q3, q4⟩ := cells_five hr4
     have g0 := frozen_row hr4 0
     have g1 := frozen_row hr4 1
     have g2 := frozen_row hr4 2
     have g3 := frozen_row hr4 3
     have g4 := frozen_row hr4 4
     have HK := hide hk5
     clear hk5
     go_wp2
     obtain ⟨u0, u1, u2, u3, u4⟩ := cells_five (putN_box (v0 := .int .i64 3) (v1 := .int .i64 (t.2 : Int)) (v2 := .slice none 0 0) (v3 := .string ⟨#[]⟩) (v4 := .slice none 0 0) hr4)
     exact bodyPost_ret (w := putN w3 w.heap.size _ _ _ _ _) (v := .tuple #[.agg #[.int .i64 3, .int .i64 (t.2 : Int), .slice none 0 0, .string ⟨#[]⟩, .slice none 0 0], .int .i64 0]) (by simp [results, Tryz.results193, go_sem, u0, u1, u2, u3, u4]) rfl ⟨putN_kp HK.out (Nat.le_refl _), .inl ⟨_, i + 2, _, HI.out, rfl, tr_none _, hR3.putN h.lt _ _ _ _ _⟩⟩
   | false =>
     rw [hq] at htk HI
     rw [if_neg (by decide)] at HI htk
     clear hlt41 hq
     go_wp2_with fail
     refine htk.mono ?_
     rintro e w3 ⟨rfl, hR3, hk4⟩
     have hr4 := hk4.keep hr3 (by omega)
     have hk5 := hk3.nx hk3.size hk4
     clear hk4 htk hr3 hk3 hR2 hR1
     obtain ⟨z0, z1, z2⟩ := hR3.cells
     have z3 := hR3.frz 2
     have hR4 := hR3.putO (o + 1)
     have hr5 := (Below.heap_setCell w3 ⟨R, 2, none⟩ (.int .i64 ((o + 1 : Nat) : Int)) w.heap.size (by show w.heap.size ≠ R; omega)).trans hr4
     have hk6 := hk5.set (p := ⟨R, 2, none⟩) (.inl rfl) (.int .i64 ((o + 1 : Nat) : Int))
     have HE : ((o + 1 : Nat) : Int) = (o : Int) + 1 := by omega
     rw [HE] at hR4 hr5 hk6
     obtain ⟨w4, hw4⟩ : ∃ w4, w3.setCell ⟨R, 2, none⟩ (.int .i64 ((o : Int) + 1)) = w4 := ⟨_, rfl⟩
     rw [hw4] at hR4 hr5 hk6
     have hcall := hAlt w4 R ao cap l (i + 1) (o + 1) hR4 hl hg (by have := HD.out; omega)
     have hs4 : w.heap.size + 1 ≤ w4.heap.size := (Array.getElem?_eq_some_iff.1 hr5).1
     clear hR3 hr4 hk5 HE
     go_wp2_with fail
     refine hcall.mono ?_
     rintro e w5 ⟨hk7, ⟨t', j, v, hE, rfl, htr, hR5⟩ | ⟨c, j, dd, o', hE, rfl, hc, hR5⟩⟩
     · have hr6 := hk7.keep hr5 (by omega)
       have hk8 := hk6.nx hk6.size hk7
       have HI2 : Hid (r = if isS (tk l j) [41] = true then .ok (t', j + 1) else .error (70, j)) := hide (by rw [HI.out, hE])
       have htr := TR.mono (ok' := fun b => w.heap.size + 1 ≤ b) (fun b _ hb => Nat.le_trans hs4 hb) t' htr
       obtain ⟨dd, rfl, hdk, hda⟩ := htr.nd
       clear hdk hda
       unfold ND.v at htr ⊢
       clear hE hk7 hr5 hk6 hcall HI hR4
       have hx5 := heap_alloc_new w5 (.cells #[.int .i64 dd.k, .int .i64 dd.a, .slice dd.sp dd.sl dd.sc, .string dd.n, .slice dd.kp dd.kl dd.kc] 25)
       have hal := al1 w5 (.cells #[.int .i64 dd.k, .int .i64 dd.a, .slice dd.sp dd.sl dd.sc, .string dd.n, .slice dd.kp dd.kl dd.kc] 25)
       have hR6 := hR5.later hal
       have hr7 := (hal.block w.heap.size (Array.getElem?_eq_some_iff.1 hr6).1).trans hr6
       have hk9 := hk8.nb hk8.size hal
       have htr6 := htr.below hal
       have hs5 : w.heap.size + 1 ≤ w5.heap.size := (Array.getElem?_eq_some_iff.1 hr6).1
       obtain ⟨w6, hw6⟩ : ∃ w6, w5.alloc (.cells #[.int .i64 dd.k, .int .i64 dd.a, .slice dd.sp dd.sl dd.sc, .string dd.n, .slice dd.kp dd.kl dd.kc] 25) = w6 := ⟨_, rfl⟩
       rw [hw6] at hx5 hR6 hr7 hk9 htr6
       have htk2 := take_any hR6 (by omega) [41]
       clear hR5 hr6 hk8 htr hal
       have HT6 := hide htr6
       have hnoI := hR6.noI
       have HNO := hide hnoI
       clear htr6 hnoI
       cases hq2 : isS (tk l j) [41] with
       | true =>
         rw [hq2] at htk2 HI2
         rw [if_pos rfl] at htk2 HI2
         clear hq2
         go_wp2_with fail
         refine htk2.mono ?_
         rintro e w7 ⟨rfl, hR7, hk10⟩
         have hr8 := hk10.keep hr7 (by omega)
         have hx6 := hk10.keep hx5 (by omega)
         have HT7 := hide (HT6.out.kp hk10 HNO.out (by show ¬ w.heap.size + 1 ≤ R; omega))
         have hk11 := hk9.nx hk9.size hk10
         clear HT6 hk10 hk9 hr7 hx5 hR6 HNO
         obtain ⟨y0, y1, y2⟩ := hR7.cells
         have y3 := hR7.frz 2
         have hR8 := hR7.putO o
         have hr9 := (Below.heap_setCell w7 ⟨R, 2, none⟩ (.int .i64 (o : Int)) w.heap.size (by show w.heap.size ≠ R; omega)).trans hr8
         have hx7 := (Below.heap_setCell w7 ⟨R, 2, none⟩ (.int .i64 (o : Int)) w5.heap.size (by show w5.heap.size ≠ R; omega)).trans hx6
         have hk12 := hk11.set (p := ⟨R, 2, none⟩) (.inl rfl) (.int .i64 (o : Int))
         have HT8 := hide (HT7.out.put (j := 2) (u := .int .i64 (o : Int)) hR7.noI (by show ¬ w.heap.size + 1 ≤ R; omega))
         have HE : ((o + 1 : Nat) : Int) - 1 = (o : Int) := by omega
         have HE' : ((o + 1 : Nat) : Int) = (o : Int) + 1 := by omega
         rw [HE'] at y2
         obtain ⟨w8, hw8⟩ : ∃ w8, w7.setCell ⟨R, 2, none⟩ (.int .i64 (o : Int)) = w8 := ⟨_, rfl⟩
         rw [hw8] at hR8 hr9 hx7 hk12 HT8
         have hee : (o : Int) + 1 - 1 = (o : Int) := by omega
         clear HE HE' HT7 hk11 hr8 hx6 hR7
         obtain ⟨m0, m1, m2, m3, m4⟩ := cells_five hx7
         obtain ⟨q0, q1, q2, q3, q4⟩ := cells_five hr9
         have g0 := frozen_row hr9 0
         have g1 := frozen_row hr9 1
         have g2 := frozen_row hr9 2
         have g3 := frozen_row hr9 3
         have g4 := frozen_row hr9 4
         have HK := hide hk12
         clear hk12
         go_wp2
         obtain ⟨u0, u1, u2, u3, u4⟩ := cells_five (putN_box (v0 := .int .i64 dd.k) (v1 := .int .i64 dd.a) (v2 := .slice dd.sp dd.sl dd.sc) (v3 := .string dd.n) (v4 := .slice dd.kp dd.kl dd.kc) hr9)
         exact bodyPost_ret (w := putN w8 w.heap.size _ _ _ _ _) (v := .tuple #[.agg #[.int .i64 dd.k, .int .i64 dd.a, .slice dd.sp dd.sl dd.sc, .string dd.n, .slice dd.kp dd.kl dd.kc], .int .i64 0]) (by simp [results, Tryz.results193, go_sem, u0, u1, u2, u3, u4]) rfl ⟨putN_kp HK.out (Nat.le_refl _), .inl ⟨_, j + 1, _, HI2.out, rfl, TR.mono (fun b _ hb => by show w.heap.size ≤ b; omega) _ (HT8.out.putN (roomN_noI hr9) (by show ¬ w.heap.size + 1 ≤ w.heap.size; omega)), hR8.putN h.lt _ _ _ _ _⟩⟩
       | false =>
         rw [hq2] at htk2 HI2
         rw [if_neg (by decide)] at htk2 HI2
         clear hq2
         go_wp2_with fail
         refine htk2.mono ?_
         rintro e w7 ⟨rfl, hR7, hk10⟩
         have hr8 := hk10.keep hr7 (by omega)
         have hk11 := hk9.nx hk9.size hk10
         clear HT6 hk10 hk9 hr7 hx5 hR6 HNO
         have HCC : ((((70 : Nat) : Int)) != 0) = true := rfl
         obtain ⟨q0, q1, q2, q3, q4⟩ := cells_five hr8
         have g0 := frozen_row hr8 0
         have g1 := frozen_row hr8 1
         have g2 := frozen_row hr8 2
         have g3 := frozen_row hr8 3
         have g4 := frozen_row hr8 4
         have HKY := hide hk11
         have hRz := hide hR7
         clear hk11
         go_wp2
         obtain ⟨u0, u1, u2, u3, u4⟩ := cells_five (putN_box (v0 := .int .i64 0) (v1 := .int .i64 0) (v2 := .slice none 0 0) (v3 := .string ⟨#[]⟩) (v4 := .slice none 0 0) hr8)
         exact bodyPost_ret (w := putN w7 w.heap.size _ _ _ _ _) (v := .tuple #[zN, .int .i64 (70 : Int)]) (by unfold zN; simp [results, Tryz.results193, go_sem, u0, u1, u2, u3, u4]) rfl ⟨putN_kp HKY.out (Nat.le_refl _), .inr ⟨70, _, ⟨0, 0, none, 0, 0, ⟨#[]⟩, none, 0, 0⟩, (o + 1), HI2.out, rfl, HCC, hRz.out.putN h.lt _ _ _ _ _⟩⟩
     · have hr6 := hk7.keep hr5 (by omega)
       have hk8 := hk6.nx hk6.size hk7
       have HI2 : Hid (r = .error (c, j)) := hide (by rw [HI.out, hE])
       have HCC := hc
       clear hE hk7 hr5 hk6 hcall HI hR4
       have hal := al1 w5 (.cells #[.int .i64 dd.k, .int .i64 dd.a, .slice dd.sp dd.sl dd.sc, .string dd.n, .slice dd.kp dd.kl dd.kc] 25)
       have hR6 := hR5.later hal
       have hr7 := (hal.block w.heap.size (Array.getElem?_eq_some_iff.1 hr6).1).trans hr6
       have hk9 := hk8.nb hk8.size hal
       obtain ⟨w6, hw6⟩ : ∃ w6, w5.alloc (.cells #[.int .i64 dd.k, .int .i64 dd.a, .slice dd.sp dd.sl dd.sc, .string dd.n, .slice dd.kp dd.kl dd.kc] 25) = w6 := ⟨_, rfl⟩
       rw [hw6] at hR6 hr7 hk9
       clear hR5 hr6 hk8 hal
       unfold ND.v
       obtain ⟨q0, q1, q2, q3, q4⟩ := cells_five hr7
       have g0 := frozen_row hr7 0
       have g1 := frozen_row hr7 1
       have g2 := frozen_row hr7 2
       have g3 := frozen_row hr7 3
       have g4 := frozen_row hr7 4
       have HKY := hide hk9
       have hRz := hide hR6
       clear hk9
       go_wp2
       obtain ⟨u0, u1, u2, u3, u4⟩ := cells_five (putN_box (v0 := .int .i64 0) (v1 := .int .i64 0) (v2 := .slice none 0 0) (v3 := .string ⟨#[]⟩) (v4 := .slice none 0 0) hr7)
       exact bodyPost_ret (w := putN w6 w.heap.size _ _ _ _ _) (v := .tuple #[zN, .int .i64 (c : Int)]) (by unfold zN; simp [results, Tryz.results193, go_sem, u0, u1, u2, u3, u4]) rfl ⟨putN_kp HKY.out (Nat.le_refl _), .inr ⟨c, _, ⟨0, 0, none, 0, 0, ⟨#[]⟩, none, 0, 0⟩, o', HI2.out, rfl, HCC, hRz.out.putN h.lt _ _ _ _ _⟩⟩
end Go.Proofs.YtgngaldoemopjaaGreatDoor
namespace Go.Proofs.YtgngaldoemopjaaGreatDoor
open Go.RowKit
namespace Rst
def anyS (ops : Array Oper) (Q : Exit → Act → World → Prop) (s : Nat) (T : World → Prop) : Nat → Array Bool → Act → World → Prop
 | 0, listed, a, w => Region.ready .any ops listed = [] ∧ Q .normal a w
 | fuel + 1, listed, a, w =>
   (Region.ready .any ops listed = [] → Q .normal a w) ∧
   ∀ i ∈ Region.ready .any ops listed, wpOp Tryz.prog ops Q i (fun a' w' => ((listed.setIfInBounds i true).getD s true = true ∨ T w') ∧ anyS ops Q s T fuel (listed.setIfInBounds i true) a' w') a w
theorem any_of {ops : Array Oper} {Q : Exit → Act → World → Prop} {s : Nat} {T : World → Prop} : ∀ (fuel : Nat) (listed : Array Bool) (a : Act) (w : World), anyS ops Q s T fuel listed a w → wpAny Tryz.prog .any ops Q fuel listed a w
 | 0, _, _, _, h => h
 | fuel + 1, _, _, _, h => ⟨h.1, fun i hi => wpOp_mono (fun a' w' h' => any_of fuel _ a' w' h'.2) (h.2 i hi)⟩
theorem first {ops : Array Oper} {Q : Exit → Act → World → Prop} {s : Nat} {T : World → Prop} {i : Nat} {oi : Oper} {v : Value} (hi : ops[i]? = some oi) (hsel : ∀ (j : Nat) (o : Oper) cs b, ops[j]? = some o → o.op ≠ .select cs b)
   (hQ : ∀ c a w, Q (.panic c) (a.put oi.dst v) w → Q (.panic c) a w) (his : s ≠ i) (hwait : ∃ os, ops[s]? = some os ∧ ∃ e ∈ os.after, Region.binds .any e = true ∧ e.on = i) :
   ∀ (fuel : Nat) (listed : Array Bool) (a : Act) (w : World),
     (∀ j oj, ops[j]? = some oj → j ≠ i → listed.getD j true = false → (∀ e ∈ oj.after, Region.binds .any e = true → e.on ≠ i) → oi.apart ops oj = true) →
     i ∈ Region.ready .any ops listed → YieldsIf Tryz.prog ops T oi v a → T w → listed.getD s true = false →
     anyS ops Q s T fuel (listed.setIfInBounds i true) (a.put oi.dst v) w → anyS ops Q s T (fuel + 1) listed a w := by
 intro fuel
 induction fuel with
 | zero =>
   intro listed a w _ hr hy hT hs H
   refine ⟨fun h => (by rw [h] at hr; cases hr), fun j hj => ?_⟩
   by_cases hji : j = i
   · subst hji
     exact hy.wpOp hi hT ⟨.inr hT, H⟩
   · have := ready_mono hj hji
     rw [H.1] at this
     cases this
 | succ fuel ih =>
   intro listed a w hfree hr hy hT hs H
   refine ⟨fun h => (by rw [h] at hr; cases hr), fun j hj => ?_⟩
   by_cases hji : j = i
   · subst hji
     exact hy.wpOp hi hT ⟨.inr hT, H⟩
   · have h1 := H.2 j (ready_mono hj hji)
     obtain ⟨hjun, oj, hoj, hall⟩ := mem_ready.1 hj
     have hnot : ∀ e ∈ oj.after, Region.binds .any e = true → e.on ≠ i := fun e he hb heq => by
       have h2 := hall e he hb
       have h0 := (mem_ready.1 hr).1
       rw [heq] at h2
       rcases Nat.lt_or_ge i listed.size with h' | h'
       · simp [h'] at h0 h2
         rw [h0] at h2
         cases h2
       · simp [Array.getElem?_eq_none h'] at h2
     have hjs : j ≠ s := by
       rintro rfl
       obtain ⟨os, h3, e, h4, h5, h6⟩ := hwait
       rw [hoj] at h3
       cases h3
       exact hnot e h4 h5 h6
     have h2 := wpOp_putIf hoj (hfree j oj hoj hji hjun hnot) (fun cs b => hsel i oi cs b hi) (fun cs b => hsel j oj cs b hoj) hQ hy h1
     have hs2 : (listed.setIfInBounds j true).getD s true = false := by rw [getD_set_ne true hjs]; exact hs
     have hfree' : ∀ k ok, ops[k]? = some ok → k ≠ i → (listed.setIfInBounds j true).getD k true = false →
         (∀ e ∈ ok.after, Region.binds .any e = true → e.on ≠ i) → oi.apart ops ok = true := fun k ok hk hki hun hno => by
       refine hfree k ok hk hki ?_ hno
       by_cases hjk : j = k
       · subst hjk; exact hjun
       · rw [getD_set_ne true hjk] at hun; exact hun
     refine wpOp_mono (fun a' w' h3 => ?_) h2
     have hT' : T w' := by
       rcases h3.2.1 with h4 | h4
       · rw [Array.setIfInBounds_comm _ _ (Ne.symm hji), getD_set_ne true (Ne.symm his), hs2] at h4
         cases h4
       · exact h4
     refine ⟨.inr hT', ih (listed.setIfInBounds j true) a' w' hfree' (ready_mono hr (Ne.symm hji)) h3.1 hT' hs2 ?_⟩
     rw [Array.setIfInBounds_comm _ _ hji]
     exact h3.2.2
def G2 (ops : Array Oper) (Q : Exit → Act → World → Prop) (a : Act) (s : Nat) (T : World → Prop) (fuel : Nat) (ks : List Nat) (l : List (Nat × Value)) (w : World) : Prop :=
 anyS ops Q s T fuel (Reg.lst ops.size ks) (Reg.ov a l) w
def waits (ops : Array Oper) (s i : Nat) : Bool :=
 match ops[s]? with
 | some os => os.after.toList.any fun e => Region.binds .any e && Nat.beq e.on i
 | none => false
theorem waits_spec {ops : Array Oper} {s i : Nat} (h : waits ops s i = true) : ∃ os, ops[s]? = some os ∧ ∃ e ∈ os.after, Region.binds .any e = true ∧ e.on = i := by
 unfold waits at h
 cases ho : ops[s]? with
 | none => rw [ho] at h; cases h
 | some os =>
   rw [ho] at h
   obtain ⟨e, he, h2⟩ := List.any_eq_true.1 h
   simp only [Bool.and_eq_true] at h2
   exact ⟨os, rfl, e, by simpa using he, h2.1, Nat.eq_of_beq_eq_true h2.2⟩
section
variable {ops : Array Oper} {Q : Exit → Act → World → Prop} {a : Act} {s : Nat} {T : World → Prop} {fuel : Nat} {ks : List Nat} {l : List (Nat × Value)} {w : World}
theorem start {id : Nat} (s : Nat) (T : World → Prop) (hm : Tryz.prog.follows .mixedOrders = true) (h : G2 ops Q a s T ops.size [] [] w.drew) : (Code.region id ops true).wp Tryz.prog Q a w :=
 wp_region_any hm (any_of _ _ _ _ h)
theorem take (hQ : ∀ c (a : Act) (d : Nat) v w, Q (.panic c) (a.put (some d) v) w → Q (.panic c) a w) (i : Nat) (o : Oper) (d : Nat) (v : Value) (hi : ops[i]? = some o)
   (hc : (Region.noSelect ops && (Region.free .any ops (Reg.lst ops.size ks) i && ((Region.ready .any ops (Reg.lst ops.size ks)).contains i && (!(Nat.beq s i) && (waits ops s i && !((Reg.lst ops.size ks).getD s true)))))) = true) (hd : o.dst = some d) (hb : Reg.inB a l = true) (hw : Reg.wantB ops a l o = true)
   (hT : T w) (hy : ∀ w', T w' → (execOp (Reg.ev a l) o).run Tryz.prog w' = .ok (.value v) w') (h : G2 ops Q a s T fuel (i :: ks) ((d, v) :: l) w) : G2 ops Q a s T (fuel + 1) ks l w := by
 simp only [Bool.and_eq_true, Bool.not_eq_true'] at hc
 obtain ⟨hs, hf, hr, h1, h2, h3⟩ := hc
 refine first (v := v) hi (Region.noSelect_spec hs) (fun c a' w' hh => hQ c a' d v w' (by rw [hd] at hh; exact hh)) (fun e => by rw [e, Nat.beq_refl] at h1; cases h1) (waits_spec h2) fuel _ _ w (Region.free_spec hi hf) (by simpa using hr) (.inl ⟨Reg.wanted_of ops a l o hb hw, fun w' hw' => ?_⟩) hT h3 ?_
 · rw [Reg.ov_eval a l hb]; exact hy w' hw'
 · rw [hd]; exact h
theorem only (i : Nat) (o : Oper) (d : Nat) (hi : ops[i]? = some o) (hr : Region.ready .any ops (Reg.lst ops.size ks) = [i]) (hd : o.dst = some d) (hb : Reg.inB a l = true) (hw : Reg.wantB ops a l o = true)
   (h : ∃ v w', (execOp (Reg.ev a l) o).run Tryz.prog w = .ok (.value v) w' ∧ T w' ∧ G2 ops Q a s T fuel (i :: ks) ((d, v) :: l) w') : G2 ops Q a s T (fuel + 1) ks l w := by
 obtain ⟨v, w', hrun, hT, hg⟩ := h
 refine ⟨fun h0 => (by rw [hr] at h0; cases h0), ?_⟩
 rw [hr]
 intro j hj
 obtain rfl : j = i := by simpa using hj
 unfold wpOp
 simp only [hi]
 rw [if_pos (Reg.wanted_of ops a l o hb hw)]
 refine .inl ?_
 unfold Oper.wp
 rw [Reg.ov_eval a l hb, hrun]
 simp only [Oper.upon, hd]
 exact ⟨.inr hT, hg⟩
theorem call (i : Nat) (o : Oper) (d f : Nat) (xs : Array Operand) (ats : Array TypeId) (vs : Array Value) (hi : ops[i]? = some o) (hr : Region.ready .any ops (Reg.lst ops.size ks) = [i]) (hd : o.dst = some d) (hb : Reg.inB a l = true) (hw : Reg.wantB ops a l o = true)
   (hop : o.op = .call { callee := .value (.func f), args := xs, argTypes := ats }) (hvs : #[] ++ xs.map (Reg.ev a l) ++ #[] = vs) (hent : (callFunc f vs).run Tryz.prog w = .ok (.enter f vs) w)
   {R : Ending → World → Prop} (hc : Calls Tryz.prog f vs w R) (hR : ∀ e w', R e w' → ∃ v, e = .returned v ∧ T w' ∧ G2 ops Q a s T fuel (i :: ks) ((d, v) :: l) w') : G2 ops Q a s T (fuel + 1) ks l w := by
 refine ⟨fun h0 => (by rw [hr] at h0; cases h0), ?_⟩
 rw [hr]
 intro j hj
 obtain rfl : j = i := by simpa using hj
 unfold wpOp
 simp only [hi]
 rw [if_pos (Reg.wanted_of ops a l o hb hw)]
 refine .inl ?_
 unfold Oper.wp
 have he : (execOp (Reg.ev a l) o).run Tryz.prog w = .ok (.enter f vs) w := by
   obtain ⟨dst, op, type, pos, after, guard⟩ := o
   simp only at hop
   subst hop
   show (callFunc f (#[] ++ xs.map (Reg.ev a l) ++ #[])).run Tryz.prog w = _
   rw [hvs]
   exact hent
 rw [Reg.ov_eval a l hb, he]
 simp only [Oper.upon]
 refine hc.mono fun e w' hr' => ?_
 obtain ⟨v, rfl, hT, hg⟩ := hR e w' hr'
 simp only [hd]
 exact ⟨.inr hT, hg⟩
theorem last (o : Oper) (hi : ops[s]? = some o) (hr : Region.ready .any ops (Reg.lst ops.size ks) = [s]) (hd : o.dst = none) (hb : Reg.inB a l = true) (hw : Reg.wantB ops a l o = true)
   (h : ∃ w', (execOp (Reg.ev a l) o).run Tryz.prog w = .ok .skip w' ∧ G2 ops Q a s T fuel (s :: ks) l w') : G2 ops Q a s T (fuel + 1) ks l w := by
 obtain ⟨w', hrun, hg⟩ := h
 refine ⟨fun h0 => (by rw [hr] at h0; cases h0), ?_⟩
 rw [hr]
 intro j hj
 obtain rfl : j = s := by simpa using hj
 unfold wpOp
 simp only [hi]
 rw [if_pos (Reg.wanted_of ops a l o hb hw)]
 refine .inl ?_
 unfold Oper.wp
 rw [Reg.ov_eval a l hb, hrun]
 simp only [Oper.upon, hd]
 refine ⟨.inl ?_, hg⟩
 rw [Array.getD_eq_getD_getElem?, Array.getElem?_setIfInBounds]
 simp only [if_true]
 split <;> simp
theorem after (i : Nat) (o : Oper) (d : Nat) (hi : ops[i]? = some o) (hr : Region.ready .any ops (Reg.lst ops.size ks) = [i]) (hd : o.dst = some d) (hb : Reg.inB a l = true) (hw : Reg.wantB ops a l o = true) (hs : ((Reg.lst ops.size ks).setIfInBounds i true).getD s true = true)
   (h : ∃ v w', (execOp (Reg.ev a l) o).run Tryz.prog w = .ok (.value v) w' ∧ G2 ops Q a s T fuel (i :: ks) ((d, v) :: l) w') : G2 ops Q a s T (fuel + 1) ks l w := by
 obtain ⟨v, w', hrun, hg⟩ := h
 refine ⟨fun h0 => (by rw [hr] at h0; cases h0), ?_⟩
 rw [hr]
 intro j hj
 obtain rfl : j = i := by simpa using hj
 unfold wpOp
 simp only [hi]
 rw [if_pos (Reg.wanted_of ops a l o hb hw)]
 refine .inl ?_
 unfold Oper.wp
 rw [Reg.ov_eval a l hb, hrun]
 simp only [Oper.upon, hd]
 exact ⟨.inl hs, hg⟩
theorem done (hr : Region.ready .any ops (Reg.lst ops.size ks) = []) (h : Q .normal (Reg.ov a l) w) : G2 ops Q a s T fuel ks l w := by
 unfold G2
 cases fuel with
 | zero => exact ⟨hr, h⟩
 | succ f => exact ⟨fun _ => h, by rw [hr]; simp⟩
end
end Rst
end Go.Proofs.YtgngaldoemopjaaGreatDoor
