/- Read of regex. -/
import Derived.Test.YtemanednddhfaaaGreatDoorAlt
namespace Go.Proofs.YtemanednddhfaaaGreatDoor
open Go.RowKit
open E (T tk isS rpt beg)
def AnsR (r : E.Res) (w : World) (e : Ending) (w' : World) : Prop :=
 Below w.heap.size w w' ∧ ((∃ t j v, r = .ok (t, j) ∧ e = .returned (.tuple #[v, .int .i64 (j : Int), .int .i64 0]) ∧ TR w' (fun b => w.heap.size ≤ b) t v) ∨
   ∃ c j : Nat, r = .error (c, j) ∧ e = .returned (.tuple #[zN, .int .i64 (j : Int), .int .i64 (c : Int)]) ∧ (((c : Int) != 0) = true))
set_option maxRecDepth 100000 in
set_option maxHeartbeats 4000000 in
theorem read_any (ao : Option Addr) (cap : Nat) (l : List E.Tok) (i : Nat) (hl : l.length ≤ 40000) (hg : E.Good l) (w : World) (hr : RdK w ao l) (hlo : ∀ b off, ao = some ⟨b, off, none⟩ → b < w.heap.size) :
   Calls Tryz.prog 44 #[.slice ao l.length cap, .int .i64 (i : Int)] w (AnsR (E.alt 20 l i) w) := by
 have hb1 := al1 w roomN
 have hb2 := al1 (w.alloc roomN) (.cells #[.slice ao l.length cap, .int .i64 (i : Int), .int .i64 0] 125)
 have hB := nx hb1 hb2
 have hR : Rdr ((w.alloc roomN).alloc (.cells #[.slice ao l.length cap, .int .i64 (i : Int), .int .i64 0] 125)) (w.heap.size + 1) ao cap l i 0 :=
   ⟨by have := heap_alloc_new (w.alloc roomN) (.cells #[.slice ao l.length cap, .int .i64 (i : Int), .int .i64 0] 125); simpa using this, hr.later hB, fun b off e => by have := hlo b off e; omega⟩
 have hr0 : ((w.alloc roomN).alloc (.cells #[.slice ao l.length cap, .int .i64 (i : Int), .int .i64 0] 125)).heap[w.heap.size]? = some roomN := (hb2.block w.heap.size (by simp)).trans (heap_alloc_new w _)
 obtain ⟨w1, hw1⟩ : ∃ w1, (w.alloc roomN).alloc (.cells #[.slice ao l.length cap, .int .i64 (i : Int), .int .i64 0] 125) = w1 := ⟨_, rfl⟩
 have hsz : w1.heap.size = w.heap.size + 2 := by rw [← hw1]; simp
 rw [hw1] at hB hR hr0
 have hcall := calt 20 w1 (w.heap.size + 1) ao cap l i 0 hR hl hg rfl
 have HSZ := hide hsz
 have HI : Hid (E.alt 20 l i = E.alt 20 l i) := hide rfl
 generalize E.alt 20 l i = r at *
 have HW := hide hw1
 clear hb1 hb2 hsz hw1
 go_enter Tryz.func44, Tryz.ntmps44
 go_wp2_with fail
 rw [HW.out]
 refine hcall.mono ?_
 rintro e w2 ⟨hk, ⟨t, j, v, rfl, rfl, htr, hR2⟩ | ⟨c, j, dd, o', rfl, rfl, hc, hR2⟩⟩
 · have hr2 := hk.keep hr0 (by omega)
   have hB2 := hB.trans ((hk.mono (by have := HSZ.out; omega : w.heap.size ≤ w1.heap.size)).below (by omega))
   have htr := TR.mono (ok' := fun b => w.heap.size + 1 ≤ b) (fun b _ hb' => by have := HSZ.out; omega) t htr
   obtain ⟨dd, rfl, hdk, hda⟩ := htr.nd
   clear hdk hda hk hr0 hcall hR hB
   unfold ND.v at htr ⊢
   have hal := al1 w2 (.cells #[.int .i64 dd.k, .int .i64 dd.a, .slice dd.sp dd.sl dd.sc, .string dd.n, .slice dd.kp dd.kl dd.kc] 26)
   have hx8 := heap_alloc_new w2 (.cells #[.int .i64 dd.k, .int .i64 dd.a, .slice dd.sp dd.sl dd.sc, .string dd.n, .slice dd.kp dd.kl dd.kc] 26)
   have hR3 := hR2.later hal
   have hr3 := (hal.block w.heap.size (Array.getElem?_eq_some_iff.1 hr2).1).trans hr2
   have hB3 := nx hB2 hal
   have HT3 := hide (htr.below hal)
   obtain ⟨w3, hw3⟩ : ∃ w3, w2.alloc (.cells #[.int .i64 dd.k, .int .i64 dd.a, .slice dd.sp dd.sl dd.sc, .string dd.n, .slice dd.kp dd.kl dd.kc] 26) = w3 := ⟨_, rfl⟩
   rw [hw3] at hx8 hR3 hr3 hB3 HT3
   clear hal hR2 hr2 hB2 htr
   obtain ⟨c0, c1, c2⟩ := hR3.cells
   obtain ⟨m0, m1, m2, m3, m4⟩ := cells_five hx8
   obtain ⟨q0, q1, q2, q3, q4⟩ := cells_five hr3
   have g0 := frozen_row hr3 0
   have g1 := frozen_row hr3 1
   have g2 := frozen_row hr3 2
   have g3 := frozen_row hr3 3
   have g4 := frozen_row hr3 4
   have HB := hide hB3
   clear hB3
   go_wp2_with fail
   go_region
   obtain ⟨u0, u1, u2, u3, u4⟩ := cells_five (putN_box (v0 := .int .i64 dd.k) (v1 := .int .i64 dd.a) (v2 := .slice dd.sp dd.sl dd.sc) (v3 := .string dd.n) (v4 := .slice dd.kp dd.kl dd.kc) hr3)
   have HTP := hide (HT3.out.putN (v0 := .int .i64 dd.k) (v1 := .int .i64 dd.a) (v2 := .slice dd.sp dd.sl dd.sc) (v3 := .string dd.n) (v4 := .slice dd.kp dd.kl dd.kc) (roomN_noI hr3) (by show ¬ w.heap.size + 1 ≤ w.heap.size; omega))
   have HBP := hide (putN_below (b := w.heap.size) (v0 := .int .i64 dd.k) (v1 := .int .i64 dd.a) (v2 := .slice dd.sp dd.sl dd.sc) (v3 := .string dd.n) (v4 := .slice dd.kp dd.kl dd.kc) HB.out (Nat.le_refl _))
   unfold putN at u0 u1 u2 u3 u4 HTP HBP
   obtain ⟨w4, hw4⟩ : ∃ w4, ((((w3.setCell ⟨w.heap.size, 0, none⟩ (.int .i64 dd.k)).setCell ⟨w.heap.size, 1, none⟩ (.int .i64 dd.a)).setCell ⟨w.heap.size, 2, none⟩ (.slice dd.sp dd.sl dd.sc)).setCell ⟨w.heap.size, 3, none⟩ (.string dd.n)).setCell ⟨w.heap.size, 4, none⟩ (.slice dd.kp dd.kl dd.kc) = w4 := ⟨_, rfl⟩
   rw [hw4] at u0 u1 u2 u3 u4 HTP HBP ⊢
   clear hw4
   go_wp2
   exact bodyPost_ret (v := .tuple #[.agg #[.int .i64 dd.k, .int .i64 dd.a, .slice dd.sp dd.sl dd.sc, .string dd.n, .slice dd.kp dd.kl dd.kc], .int .i64 (j : Int), .int .i64 0]) (by simp [results, Tryz.results44, go_sem, u0, u1, u2, u3, u4]) rfl ⟨HBP.out.drew, .inl ⟨t, j, _, rfl, rfl, TR.mono (fun b _ hb => by show w.heap.size ≤ b; omega) _ (TR.later (w := w4) (W := w4.drew) (fun _ _ => rfl) _ HTP.out)⟩⟩
 · have hr2 := hk.keep hr0 (by omega)
   have hB2 := hB.trans ((hk.mono (by have := HSZ.out; omega : w.heap.size ≤ w1.heap.size)).below (by omega))
   clear hk hr0 hcall hR hB
   unfold ND.v
   have hal := al1 w2 (.cells #[.int .i64 dd.k, .int .i64 dd.a, .slice dd.sp dd.sl dd.sc, .string dd.n, .slice dd.kp dd.kl dd.kc] 26)
   have hR3 := hR2.later hal
   have hr3 := (hal.block w.heap.size (Array.getElem?_eq_some_iff.1 hr2).1).trans hr2
   have hB3 := nx hB2 hal
   obtain ⟨w3, hw3⟩ : ∃ w3, w2.alloc (.cells #[.int .i64 dd.k, .int .i64 dd.a, .slice dd.sp dd.sl dd.sc, .string dd.n, .slice dd.kp dd.kl dd.kc] 26) = w3 := ⟨_, rfl⟩
   rw [hw3] at hR3 hr3 hB3
   clear hal hR2 hr2 hB2
   obtain ⟨c0, c1, c2⟩ := hR3.cells
   obtain ⟨q0, q1, q2, q3, q4⟩ := cells_five hr3
   have g0 := frozen_row hr3 0
   have g1 := frozen_row hr3 1
   have g2 := frozen_row hr3 2
   have g3 := frozen_row hr3 3
   have g4 := frozen_row hr3 4
   have HB := hide hB3
   clear hB3
   go_wp2_with fail
   go_region
   obtain ⟨u0, u1, u2, u3, u4⟩ := cells_five (putN_box (v0 := .int .i64 0) (v1 := .int .i64 0) (v2 := .slice none 0 0) (v3 := .string ⟨#[]⟩) (v4 := .slice none 0 0) hr3)
   have HBP := hide (putN_below (b := w.heap.size) (v0 := .int .i64 0) (v1 := .int .i64 0) (v2 := .slice none 0 0) (v3 := .string ⟨#[]⟩) (v4 := .slice none 0 0) HB.out (Nat.le_refl _))
   unfold putN at u0 u1 u2 u3 u4 HBP
   obtain ⟨w4, hw4⟩ : ∃ w4, ((((w3.setCell ⟨w.heap.size, 0, none⟩ (.int .i64 0)).setCell ⟨w.heap.size, 1, none⟩ (.int .i64 0)).setCell ⟨w.heap.size, 2, none⟩ (.slice none 0 0)).setCell ⟨w.heap.size, 3, none⟩ (.string ⟨#[]⟩)).setCell ⟨w.heap.size, 4, none⟩ (.slice none 0 0) = w4 := ⟨_, rfl⟩
   rw [hw4] at u0 u1 u2 u3 u4 HBP ⊢
   clear hw4
   have HC := hide hc
   clear hc
   go_wp2
   exact bodyPost_ret (v := .tuple #[zN, .int .i64 (j : Int), .int .i64 (c : Int)]) (by unfold zN; simp [results, Tryz.results44, go_sem, u0, u1, u2, u3, u4]) rfl ⟨HBP.out.drew, .inr ⟨c, j, rfl, rfl, HC.out⟩⟩
end Go.Proofs.YtemanednddhfaaaGreatDoor
