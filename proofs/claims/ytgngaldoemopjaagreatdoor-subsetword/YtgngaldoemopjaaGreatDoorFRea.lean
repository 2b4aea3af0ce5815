/- Joined: Alt Rea. -/
import Derived.Test.YtgngaldoemopjaaGreatDoorFCat
namespace Go.Proofs.YtgngaldoemopjaaGreatDoor
open Go.RowKit
open E (T tk isS rpt beg)
theorem altL_stop {Q : Nat → E.Res} {l : List E.Tok} {j : Nat} (h : isS (tk l j) [124] = false) (n : Nat) (t : T) : E.altL Q n l j t = .ok (t, j) := by
 cases n with
 | zero => rfl
 | succ n => rw [E.altL, if_neg (by rw [h]; decide)]
theorem altL_step {Q : Nat → E.Res} {l : List E.Tok} {j : Nat} (h : isS (tk l j) [124] = true) (n : Nat) (t : T) : E.altL Q (n + 1) l j t = match Q (j + 1) with | .error e => .error e | .ok (u, k) => E.altL Q n l k (.mk 5 t.at_ [] [] [t, u]) := by
 rw [E.altL, if_pos h]
 cases Q (j + 1) with
 | error e => rfl
 | ok p => rfl
set_option maxRecDepth 100000 in
set_option maxHeartbeats 8000000 in
theorem alt_any (d : Nat) (hA : ∀ d', d = d' + 1 → CAlt d') {w : World} {R : Nat} {ao : Option Addr} {cap : Nat} {l : List E.Tok} {i o : Nat} (h : Rdr w R ao cap l i o) (hl : l.length ≤ 40000) (hg : E.Good l) (hd : o + d = 20) :
   Calls Tryz.prog 82 #[.pointer (some ⟨R, 0, none⟩)] w (AnsN (E.alt d l i) R ao cap l o w) := by
 have hRl := h.lt
 have h1 := h.later (al1 w roomN)
 have hr1 : (w.alloc roomN).heap[w.heap.size]? = some roomN := heap_alloc_new w _
 have hk1 : Kp w.heap.size R w (w.alloc roomN) := Kp.of (al1 w _)
 have HI : Hid (E.alt d l i = match E.catD d l i with | .error e => .error e | .ok (t, j) => E.altL (E.catD d l) l.length l j t) := hide (by rw [E.alt_eq]; rfl)
 have hfar := E.catD_far l d
 have hcallee := fun (W : World) (k : Nat) (hR : Rdr W R ao cap l k o) => cat_any d hA hR hl hg hd
 have hp := hcallee _ i h1
 generalize E.alt d l i = r at *
 generalize E.catD d l = Q at *
 clear hA
 go_enter Tryz.func82, Tryz.ntmps82
 go_wp2_with fail
 refine hp.mono ?_
 rintro e w1 ⟨hk, ⟨t0, j0, v, hE, rfl, htr, hR1⟩ | ⟨c, j, dd, o', hE, rfl, hc, hR1⟩⟩
 · have hr2 := hk.keep hr1 (by omega)
   have hk2 := hk1.nx (by simp) hk
   have hs1 : w.heap.size + 1 ≤ w1.heap.size := (Array.getElem?_eq_some_iff.1 hr2).1
   have hj0 := (hfar i t0 j0 hE).2
   have HI2 : Hid (r = E.altL Q l.length l j0 t0) := hide (by rw [HI.out, hE])
   have htr := TR.mono (ok' := fun b => w.heap.size + 1 ≤ b ∧ b ≠ w1.heap.size) (fun b hb hb' => ⟨by simpa using hb', by omega⟩) t0 htr
   obtain ⟨dd, rfl, hdk, hda⟩ := htr.nd
   have HDA := hide hda
   have HF := hide hfar
   clear hdk hda hE hk hr1 hk1 hp HI hfar h1
   unfold ND.v
   have hal := al1 w1 (.cells #[.int .i64 dd.k, .int .i64 dd.a, .slice dd.sp dd.sl dd.sc, .string dd.n, .slice dd.kp dd.kl dd.kc] 25)
   have hx4 := heap_alloc_new w1 (.cells #[.int .i64 dd.k, .int .i64 dd.a, .slice dd.sp dd.sl dd.sc, .string dd.n, .slice dd.kp dd.kl dd.kc] 25)
   have hR2 := hR1.later hal
   have hr3 := (hal.block w.heap.size hs1).trans hr2
   have hk3 := hk2.nb hk2.size hal
   have htr2 := htr.below hal
   clear hal hR1 hr2 hk2 htr
   go_wp2
   go_loopw [5, 6] (fun u _ wr => ∃ (j : Nat) (dd : ND), wr.heap[w1.heap.size]? = some (.cells #[.int .i64 dd.k, .int .i64 dd.a, .slice dd.sp dd.sl dd.sc, .string dd.n, .slice dd.kp dd.kl dd.kc] 25) ∧ Kp w.heap.size R w wr ∧ wr.heap[w.heap.size]? = some roomN ∧ ((∃ (n : Nat) (t : T), u = .int .i64 0 ∧ Rdr wr R ao cap l j o ∧ Hid (dd.a = t.at_) ∧ Hid (TR wr (fun b => w.heap.size + 1 ≤ b ∧ b ≠ w1.heap.size) t dd.v) ∧ j ≤ l.length ∧ Hid (l.length - j ≤ n) ∧ Hid (E.altL Q l.length l j0 t0 = E.altL Q n l j t)) ∨
     ∃ (c o' : Nat), u = .int .i64 (c : Int) ∧ ((c : Int) == 0) = false ∧ Rdr wr R ao cap l j o' ∧ Hid (r = .error (c, j)))) (fun u _ wr => if intOf u = 0 then l.length + 1 - rdAt wr R else 0)
   case atStart => exact ⟨j0, dd, hx4, hk3, hr3, .inl ⟨l.length, t0, rfl, hR2, HDA, hide htr2, hj0, hide (by omega), hide rfl⟩⟩
   case round =>
     obtain ⟨j, dd, hx, hk, hr, ⟨n, t, rfl, hR, HDA, HT, hj, HN, HL⟩ | ⟨c, o', rfl, hcz, hR, HO⟩⟩ := hrel
     · have htk := take_any hR (by omega) [124]
       cases hz : isS (tk l j) [124] with
       | false =>
         have HO : Hid (r = .ok (t, j)) := hide (by rw [HI2.out, HL.out, altL_stop hz])
         rw [hz, if_neg (by decide)] at htk
         clear hz HL HN hcallee
         go_wp2_with fail
         refine htk.mono ?_
         rintro e x2 ⟨rfl, hR2, hk'⟩
         have hr2 := hk'.keep hr (by omega)
         have hx2 := hk'.keep hx (by omega)
         have hk2 := hk.nx hk.size hk'
         have HT2 := hide (HT.out.kp hk' hR.noI (by rintro ⟨hh, _⟩; omega))
         clear hk' hR hr hx hk HT htk
         obtain ⟨m0, m1, m2, m3, m4⟩ := cells_five hx2
         obtain ⟨q0, q1, q2, q3, q4⟩ := cells_five hr2
         have g0 := frozen_row hr2 0
         have g1 := frozen_row hr2 1
         have g2 := frozen_row hr2 2
         have g3 := frozen_row hr2 3
         have g4 := frozen_row hr2 4
         have HK := hide hk2
         clear hk2
         go_wp2
         obtain ⟨u0, u1, u2, u3, u4⟩ := cells_five (putN_box (v0 := .int .i64 dd.k) (v1 := .int .i64 dd.a) (v2 := .slice dd.sp dd.sl dd.sc) (v3 := .string dd.n) (v4 := .slice dd.kp dd.kl dd.kc) hr2)
         exact bodyPost_ret (w := putN x2 w.heap.size _ _ _ _ _) (v := .tuple #[.agg #[.int .i64 dd.k, .int .i64 dd.a, .slice dd.sp dd.sl dd.sc, .string dd.n, .slice dd.kp dd.kl dd.kc], .int .i64 0]) (by simp [results, Tryz.results82, go_sem, u0, u1, u2, u3, u4]) rfl ⟨putN_kp HK.out (Nat.le_refl _), (.inl ⟨_, j, _, HO.out, rfl, TR.mono (fun b _ hb => by show w.heap.size ≤ b; omega) _ (HT2.out.putN (roomN_noI hr2) (by rintro ⟨hh, _⟩; omega)), hR2.putN h.lt _ _ _ _ _⟩)⟩
       | true =>
         have hjl : j < l.length := E.isS_lt hz
         obtain ⟨m, HM⟩ : ∃ m, Hid (n = m + 1) := ⟨n - 1, hide (by have := HN.out; omega)⟩
         have HL2 : Hid (E.altL Q l.length l j0 t0 = match Q (j + 1) with | .error e => .error e | .ok (u, k) => E.altL Q m l k (.mk 5 t.at_ [] [] [t, u])) := hide (by rw [HL.out, HM.out, altL_step hz])
         rw [hz, if_pos rfl] at htk
         clear hz HL
         go_wp2_with fail
         refine htk.mono ?_
         rintro e x2 ⟨rfl, hR2, hk'⟩
         have hr2 := hk'.keep hr (by omega)
         have hx2 := hk'.keep hx (by omega)
         have hk2 := hk.nx hk.size hk'
         have HT2 := hide (HT.out.kp hk' hR.noI (by rintro ⟨hh, _⟩; omega))
         have HAT := hide hR.at_
         clear hk' hR hr hx hk HT htk
         have hs2 : w1.heap.size < x2.heap.size := (Array.getElem?_eq_some_iff.1 hx2).1
         have hal := al1 x2 roomN
         have hn6 := heap_alloc_new x2 roomN
         have hR3 := hR2.later hal
         have hr3 := (hal.block w.heap.size (Array.getElem?_eq_some_iff.1 hr2).1).trans hr2
         have hx3 := (hal.block w1.heap.size hs2).trans hx2
         have hk3 := hk2.nb hk2.size hal
         have HT3 := hide (TR.mono (ok' := fun b => w.heap.size + 1 ≤ b ∧ b ≠ w1.heap.size ∧ b ≠ x2.heap.size) (fun b hb hb' => ⟨hb'.1, hb'.2, by omega⟩) _ HT2.out |>.below hal)
         obtain ⟨x3, hx3_⟩ : ∃ x3, x2.alloc roomN = x3 := ⟨_, rfl⟩
         rw [hx3_] at hn6 hR3 hr3 hx3 hk3 HT3
         have hs3 : x2.heap.size < x3.heap.size := (Array.getElem?_eq_some_iff.1 hn6).1
         clear hal hR2 hr2 hx2 hk2 HT2
         have hcl := hcallee x3 (j + 1) hR3
         have HNO := hide hR3.noI
         go_wp2_with fail
         refine hcl.mono ?_
         rintro e x4 ⟨hk4, ⟨u, k, v, hE, rfl, htu, hR4⟩ | ⟨c, k, d2, o', hE, rfl, hc, hR4⟩⟩
         · have hfr := HF.out _ _ _ hE
           rw [hE] at HL2
           have hr4 := hk4.keep hr3 (by omega)
           have hx4 := hk4.keep hx3 (by omega)
           have hn7 := hk4.keep hn6 (by omega)
           have hk5 := hk3.nx hk3.size hk4
           have HT4 := hide (HT3.out.kp hk4 HNO.out (by rintro ⟨hh, _⟩; omega))
           have HU4 := hide (TR.mono (ok' := fun b => w.heap.size + 1 ≤ b ∧ b ≠ w1.heap.size ∧ b ≠ x2.heap.size) (fun b hb hb' => ⟨by omega, by omega, by omega⟩) _ htu)
           obtain ⟨d2, rfl, hdk, hda⟩ := htu.nd
           clear hdk hda htu hk4 hr3 hx3 hn6 hk3 HT3 HNO hE hcl hR3
           have htwo := fun W => twoOf_any 5 dd d2 W
           unfold ND.v at htwo ⊢
           obtain ⟨p0, p1, p2, p3, p4⟩ := cells_five hn7
           have f0 := frozen_row hn7 0
           have f1 := frozen_row hn7 1
           have f2 := frozen_row hn7 2
           have f3 := frozen_row hn7 3
           have f4 := frozen_row hn7 4
           have hR5 := hR4.putN (x := x2.heap.size) (by omega) (.int .i64 d2.k) (.int .i64 d2.a) (.slice d2.sp d2.sl d2.sc) (.string d2.n) (.slice d2.kp d2.kl d2.kc)
           have hr5 := (putN_other (w := x4) (b := x2.heap.size) (k := w.heap.size) (v0 := .int .i64 d2.k) (v1 := .int .i64 d2.a) (v2 := .slice d2.sp d2.sl d2.sc) (v3 := .string d2.n) (v4 := .slice d2.kp d2.kl d2.kc) (by omega)).trans hr4
           have hx5 := (putN_other (w := x4) (b := x2.heap.size) (k := w1.heap.size) (v0 := .int .i64 d2.k) (v1 := .int .i64 d2.a) (v2 := .slice d2.sp d2.sl d2.sc) (v3 := .string d2.n) (v4 := .slice d2.kp d2.kl d2.kc) (by omega)).trans hx4
           have hn8 := putN_box (v0 := .int .i64 d2.k) (v1 := .int .i64 d2.a) (v2 := .slice d2.sp d2.sl d2.sc) (v3 := .string d2.n) (v4 := .slice d2.kp d2.kl d2.kc) hn7
           have hk6 := putN_kp (b := x2.heap.size) (v0 := .int .i64 d2.k) (v1 := .int .i64 d2.a) (v2 := .slice d2.sp d2.sl d2.sc) (v3 := .string d2.n) (v4 := .slice d2.kp d2.kl d2.kc) hk5 (by omega)
           have HT5 := hide (HT4.out.putN (v0 := .int .i64 d2.k) (v1 := .int .i64 d2.a) (v2 := .slice d2.sp d2.sl d2.sc) (v3 := .string d2.n) (v4 := .slice d2.kp d2.kl d2.kc) (roomN_noI hn7) (by rintro ⟨_, _, hh⟩; exact hh rfl))
           have HU5 := hide (HU4.out.putN (v0 := .int .i64 d2.k) (v1 := .int .i64 d2.a) (v2 := .slice d2.sp d2.sl d2.sc) (v3 := .string d2.n) (v4 := .slice d2.kp d2.kl d2.kc) (roomN_noI hn7) (by rintro ⟨_, _, hh⟩; exact hh rfl))
           have hsz5 := putN_size x4 x2.heap.size (.int .i64 d2.k) (.int .i64 d2.a) (.slice d2.sp d2.sl d2.sc) (.string d2.n) (.slice d2.kp d2.kl d2.kc)
           unfold putN at hR5 hr5 hx5 hn8 hk6 HT5 HU5 hsz5
           obtain ⟨x5, hx5_⟩ : ∃ x5, ((((x4.setCell ⟨x2.heap.size, 0, none⟩ (.int .i64 d2.k)).setCell ⟨x2.heap.size, 1, none⟩ (.int .i64 d2.a)).setCell ⟨x2.heap.size, 2, none⟩ (.slice d2.sp d2.sl d2.sc)).setCell ⟨x2.heap.size, 3, none⟩ (.string d2.n)).setCell ⟨x2.heap.size, 4, none⟩ (.slice d2.kp d2.kl d2.kc) = x5 := ⟨_, rfl⟩
           rw [hx5_] at hR5 hr5 hx5 hn8 hk6 HT5 HU5 hsz5
           have HSZ5 := hide hsz5
           clear hsz5 HT4 HU4 hR4 hr4 hx4 hk5 hn7
           obtain ⟨a0, a1, a2, a3, a4⟩ := cells_five hx5
           obtain ⟨b0, b1, b2, b3, b4⟩ := cells_five hn8
           go_wp2_with fail
           refine (htwo _).mono ?_
           rintro e x6 ⟨bn, hbn, rfl, hnew, hb6⟩
           have hR6 := hR5.later hb6
           have hr6 := (hb6.block w.heap.size (Array.getElem?_eq_some_iff.1 hr5).1).trans hr5
           have hs5 : w1.heap.size < x5.heap.size := (Array.getElem?_eq_some_iff.1 hx5).1
           have hs5b : x2.heap.size < x5.heap.size := (Array.getElem?_eq_some_iff.1 hn8).1
           have hx6 := (hb6.block w1.heap.size hs5).trans hx5
           have hk7 := hk6.nb hk6.size hb6
           have HT6 := hide (tr_two 5 hnew (⟨by omega, by omega, by omega⟩ : w.heap.size + 1 ≤ bn ∧ bn ≠ w1.heap.size ∧ bn ≠ x2.heap.size) (HT5.out.below hb6) (HU5.out.below hb6) HDA.out)
           clear HT5 HU5 hR5 hr5 hx5 hk6 hn8 hnew
           obtain ⟨y0, y1, y2, y3, y4⟩ := cells_five hx6
           have g0 := frozen_row hx6 0
           have g1 := frozen_row hx6 1
           have g2 := frozen_row hx6 2
           have g3 := frozen_row hx6 3
           have g4 := frozen_row hx6 4
           have hRp := hR6.putN (x := w1.heap.size) (by omega) (.int .i64 5) (.int .i64 dd.a) (.slice none 0 0) (.string ⟨#[]⟩) (.slice (some ⟨bn, 0, none⟩) 2 2)
           have hrp2 := (putN_other (w := x6) (b := w1.heap.size) (k := w.heap.size) (v0 := .int .i64 5) (v1 := .int .i64 dd.a) (v2 := .slice none 0 0) (v3 := .string ⟨#[]⟩) (v4 := .slice (some ⟨bn, 0, none⟩) 2 2) (by omega)).trans hr6
           have hxp := putN_box (v0 := .int .i64 5) (v1 := .int .i64 dd.a) (v2 := .slice none 0 0) (v3 := .string ⟨#[]⟩) (v4 := .slice (some ⟨bn, 0, none⟩) 2 2) hx6
           have HKP := hide (putN_kp (b := w1.heap.size) (v0 := .int .i64 5) (v1 := .int .i64 dd.a) (v2 := .slice none 0 0) (v3 := .string ⟨#[]⟩) (v4 := .slice (some ⟨bn, 0, none⟩) 2 2) hk7 (by omega))
           have HTP := hide (TR.mono (ok' := fun b => w.heap.size + 1 ≤ b ∧ b ≠ w1.heap.size) (fun b _ hb => ⟨hb.1, hb.2.1⟩) _ (HT6.out.putN (v0 := .int .i64 5) (v1 := .int .i64 dd.a) (v2 := .slice none 0 0) (v3 := .string ⟨#[]⟩) (v4 := .slice (some ⟨bn, 0, none⟩) 2 2) (nd_noI hx6) (by rintro ⟨_, hh, _⟩; exact hh rfl)))
           unfold putN at hRp hrp2 hxp HKP HTP
           go_wp2
           exact ⟨⟨k, ⟨5, dd.a, none, 0, 0, ⟨#[]⟩, some ⟨bn, 0, none⟩, 2, 2⟩, hxp, HKP.out, hrp2, .inl ⟨m, .mk 5 t.at_ [] [] [t, u], rfl, hRp, HDA, HTP, hfr.2, hide (by have := HN.out; have := HM.out; omega), HL2⟩⟩, by rw [hRp.at_, HAT.out]; simp [intOf]; omega⟩
         · rw [hE] at HL2
           have HO : Hid (r = .error (c, k)) := hide (by rw [HI2.out, HL2.out])
           have hr4 := hk4.keep hr3 (by omega)
           have hx4 := hk4.keep hx3 (by omega)
           have hn7 := hk4.keep hn6 (by omega)
           have hk5 := hk3.nx hk3.size hk4
           clear hk4 hr3 hx3 hn6 hk3 HT3 HNO hE hcl hR3 HL2
           have htwo := fun W => twoOf_any 5 dd d2 W
           unfold ND.v at htwo ⊢
           obtain ⟨p0, p1, p2, p3, p4⟩ := cells_five hn7
           have f0 := frozen_row hn7 0
           have f1 := frozen_row hn7 1
           have f2 := frozen_row hn7 2
           have f3 := frozen_row hn7 3
           have f4 := frozen_row hn7 4
           have hR5 := hR4.putN (x := x2.heap.size) (by omega) (.int .i64 d2.k) (.int .i64 d2.a) (.slice d2.sp d2.sl d2.sc) (.string d2.n) (.slice d2.kp d2.kl d2.kc)
           have hr5 := (putN_other (w := x4) (b := x2.heap.size) (k := w.heap.size) (v0 := .int .i64 d2.k) (v1 := .int .i64 d2.a) (v2 := .slice d2.sp d2.sl d2.sc) (v3 := .string d2.n) (v4 := .slice d2.kp d2.kl d2.kc) (by omega)).trans hr4
           have hx5 := (putN_other (w := x4) (b := x2.heap.size) (k := w1.heap.size) (v0 := .int .i64 d2.k) (v1 := .int .i64 d2.a) (v2 := .slice d2.sp d2.sl d2.sc) (v3 := .string d2.n) (v4 := .slice d2.kp d2.kl d2.kc) (by omega)).trans hx4
           have hn8 := putN_box (v0 := .int .i64 d2.k) (v1 := .int .i64 d2.a) (v2 := .slice d2.sp d2.sl d2.sc) (v3 := .string d2.n) (v4 := .slice d2.kp d2.kl d2.kc) hn7
           have hk6 := putN_kp (b := x2.heap.size) (v0 := .int .i64 d2.k) (v1 := .int .i64 d2.a) (v2 := .slice d2.sp d2.sl d2.sc) (v3 := .string d2.n) (v4 := .slice d2.kp d2.kl d2.kc) hk5 (by omega)
           unfold putN at hR5 hr5 hx5 hn8 hk6
           obtain ⟨x5, hx5_⟩ : ∃ x5, ((((x4.setCell ⟨x2.heap.size, 0, none⟩ (.int .i64 d2.k)).setCell ⟨x2.heap.size, 1, none⟩ (.int .i64 d2.a)).setCell ⟨x2.heap.size, 2, none⟩ (.slice d2.sp d2.sl d2.sc)).setCell ⟨x2.heap.size, 3, none⟩ (.string d2.n)).setCell ⟨x2.heap.size, 4, none⟩ (.slice d2.kp d2.kl d2.kc) = x5 := ⟨_, rfl⟩
           rw [hx5_] at hR5 hr5 hx5 hn8 hk6
           clear hR4 hr4 hx4 hk5 hn7
           obtain ⟨a0, a1, a2, a3, a4⟩ := cells_five hx5
           obtain ⟨b0, b1, b2, b3, b4⟩ := cells_five hn8
           have HC := hide hc
           clear hc
           go_wp2_with fail
           refine (htwo _).mono ?_
           rintro e x6 ⟨bn, hbn, rfl, hnew, hb6⟩
           have hR6 := hR5.later hb6
           have hr6 := (hb6.block w.heap.size (Array.getElem?_eq_some_iff.1 hr5).1).trans hr5
           have hs5 : w1.heap.size < x5.heap.size := (Array.getElem?_eq_some_iff.1 hx5).1
           have hx6 := (hb6.block w1.heap.size hs5).trans hx5
           have hk7 := hk6.nb hk6.size hb6
           clear hR5 hr5 hx5 hk6 hn8 hnew
           obtain ⟨y0, y1, y2, y3, y4⟩ := cells_five hx6
           have g0 := frozen_row hx6 0
           have g1 := frozen_row hx6 1
           have g2 := frozen_row hx6 2
           have g3 := frozen_row hx6 3
           have g4 := frozen_row hx6 4
           have hRp := hR6.putN (x := w1.heap.size) (by omega) (.int .i64 5) (.int .i64 dd.a) (.slice none 0 0) (.string ⟨#[]⟩) (.slice (some ⟨bn, 0, none⟩) 2 2)
           have hrp2 := (putN_other (w := x6) (b := w1.heap.size) (k := w.heap.size) (v0 := .int .i64 5) (v1 := .int .i64 dd.a) (v2 := .slice none 0 0) (v3 := .string ⟨#[]⟩) (v4 := .slice (some ⟨bn, 0, none⟩) 2 2) (by omega)).trans hr6
           have hxp := putN_box (v0 := .int .i64 5) (v1 := .int .i64 dd.a) (v2 := .slice none 0 0) (v3 := .string ⟨#[]⟩) (v4 := .slice (some ⟨bn, 0, none⟩) 2 2) hx6
           have HKP := hide (putN_kp (b := w1.heap.size) (v0 := .int .i64 5) (v1 := .int .i64 dd.a) (v2 := .slice none 0 0) (v3 := .string ⟨#[]⟩) (v4 := .slice (some ⟨bn, 0, none⟩) 2 2) hk7 (by omega))
           unfold putN at hRp hrp2 hxp HKP
           go_wp2
           exact ⟨⟨k, ⟨5, dd.a, none, 0, 0, ⟨#[]⟩, some ⟨bn, 0, none⟩, 2, 2⟩, hxp, HKP.out, hrp2, .inr ⟨c, o', rfl, by simpa using HC.out, hRp, HO⟩⟩, by
             rw [HAT.out, if_neg (by have := HC.out; simpa [intOf] using this), if_pos (show intOf (.int .i64 0) = 0 from rfl)]
             omega⟩
     · have HC : Hid (((c : Int) != 0) = true) := hide (by simpa using hcz)
       obtain ⟨m0, m1, m2, m3, m4⟩ := cells_five hx
       obtain ⟨q0, q1, q2, q3, q4⟩ := cells_five hr
       have g0 := frozen_row hr 0
       have g1 := frozen_row hr 1
       have g2 := frozen_row hr 2
       have g3 := frozen_row hr 3
       have g4 := frozen_row hr 4
       have HK := hide hk
       clear hk
       go_wp2
       obtain ⟨u0, u1, u2, u3, u4⟩ := cells_five (putN_box (v0 := .int .i64 dd.k) (v1 := .int .i64 dd.a) (v2 := .slice dd.sp dd.sl dd.sc) (v3 := .string dd.n) (v4 := .slice dd.kp dd.kl dd.kc) hr)
       exact bodyPost_ret (w := putN wr w.heap.size _ _ _ _ _) (v := .tuple #[.agg #[.int .i64 dd.k, .int .i64 dd.a, .slice dd.sp dd.sl dd.sc, .string dd.n, .slice dd.kp dd.kl dd.kc], .int .i64 (c : Int)]) (by simp [results, Tryz.results82, go_sem, u0, u1, u2, u3, u4]) rfl ⟨putN_kp HK.out (Nat.le_refl _), (.inr ⟨c, j, dd, o', HO.out, rfl, HC.out, hR.putN h.lt _ _ _ _ _⟩)⟩
 · have hr2 := hk.keep hr1 (by omega)
   have hk2 := hk1.nx (by simp) hk
   have HO : Hid (r = .error (c, j)) := hide (by rw [HI.out, hE])
   clear hE hk hr1 hk1 hp HI hfar h1
   unfold ND.v
   have hal := al1 w1 (.cells #[.int .i64 dd.k, .int .i64 dd.a, .slice dd.sp dd.sl dd.sc, .string dd.n, .slice dd.kp dd.kl dd.kc] 25)
   have hx4 := heap_alloc_new w1 (.cells #[.int .i64 dd.k, .int .i64 dd.a, .slice dd.sp dd.sl dd.sc, .string dd.n, .slice dd.kp dd.kl dd.kc] 25)
   have hR2 := hR1.later hal
   have hr3 := (hal.block w.heap.size (Array.getElem?_eq_some_iff.1 hr2).1).trans hr2
   have hk3 := hk2.nb hk2.size hal
   have hcz : ((c : Int) == 0) = false := by simpa using hc
   obtain ⟨w2, hw2⟩ : ∃ w2, w1.alloc (.cells #[.int .i64 dd.k, .int .i64 dd.a, .slice dd.sp dd.sl dd.sc, .string dd.n, .slice dd.kp dd.kl dd.kc] 25) = w2 := ⟨_, rfl⟩
   rw [hw2] at hx4 hR2 hr3 hk3
   have HC := hide hc
   clear hal hR1 hr2 hk2 hc
   go_wp2
   go_loopw [5, 6] (fun u _ wr => wr = w2 ∧ u = .int .i64 (c : Int)) (fun _ _ _ => 0)
   case atStart => exact ⟨rfl, rfl⟩
   case round =>
     obtain ⟨rfl, rfl⟩ := hrel
     obtain ⟨m0, m1, m2, m3, m4⟩ := cells_five hx4
     obtain ⟨q0, q1, q2, q3, q4⟩ := cells_five hr3
     have g0 := frozen_row hr3 0
     have g1 := frozen_row hr3 1
     have g2 := frozen_row hr3 2
     have g3 := frozen_row hr3 3
     have g4 := frozen_row hr3 4
     have HK := hide hk3
     clear hk3
     go_wp2
     obtain ⟨u0, u1, u2, u3, u4⟩ := cells_five (putN_box (v0 := .int .i64 dd.k) (v1 := .int .i64 dd.a) (v2 := .slice dd.sp dd.sl dd.sc) (v3 := .string dd.n) (v4 := .slice dd.kp dd.kl dd.kc) hr3)
     exact bodyPost_ret (w := putN wr w.heap.size _ _ _ _ _) (v := .tuple #[.agg #[.int .i64 dd.k, .int .i64 dd.a, .slice dd.sp dd.sl dd.sc, .string dd.n, .slice dd.kp dd.kl dd.kc], .int .i64 (c : Int)]) (by simp [results, Tryz.results82, go_sem, u0, u1, u2, u3, u4]) rfl ⟨putN_kp HK.out (Nat.le_refl _), (.inr ⟨c, j, dd, o', HO.out, rfl, HC.out, hR2.putN h.lt _ _ _ _ _⟩)⟩
theorem calt : ∀ d, CAlt d
 | 0 => fun _ _ _ _ _ _ _ h hl hg hd => alt_any 0 (fun _ e => by cases e) h hl hg hd
 | d + 1 => fun _ _ _ _ _ _ _ h hl hg hd => alt_any (d + 1) (fun d' e => by cases e; exact calt d) h hl hg hd
end Go.Proofs.YtgngaldoemopjaaGreatDoor
namespace Go.Proofs.YtgngaldoemopjaaGreatDoor
open Go.RowKit
open E (T tk isS rpt beg)
def AnsR (r : E.Res) (w : World) (e : Ending) (w' : World) : Prop :=
 Below w.heap.size w w' ∧ ((∃ t j v, r = .ok (t, j) ∧ e = .returned (.tuple #[v, .int .i64 (j : Int), .int .i64 0]) ∧ TR w' (fun b => w.heap.size ≤ b) t v) ∨
   ∃ c j : Nat, r = .error (c, j) ∧ e = .returned (.tuple #[zN, .int .i64 (j : Int), .int .i64 (c : Int)]) ∧ (((c : Int) != 0) = true))
set_option maxRecDepth 100000 in
set_option maxHeartbeats 4000000 in
theorem read_any (ao : Option Addr) (cap : Nat) (l : List E.Tok) (i : Nat) (hl : l.length ≤ 40000) (hg : E.Good l) (w : World) (hr : RdK w ao l) (hlo : ∀ b off, ao = some ⟨b, off, none⟩ → b < w.heap.size) :
   Calls Tryz.prog 47 #[.slice ao l.length cap, .int .i64 (i : Int)] w (AnsR (E.alt 20 l i) w) := by
 have hb1 := al1 w roomN
 have hb2 := al1 (w.alloc roomN) (.cells #[.slice ao l.length cap, .int .i64 (i : Int), .int .i64 0] 165)
 have hB := nx hb1 hb2
 have hR : Rdr ((w.alloc roomN).alloc (.cells #[.slice ao l.length cap, .int .i64 (i : Int), .int .i64 0] 165)) (w.heap.size + 1) ao cap l i 0 :=
   ⟨by have := heap_alloc_new (w.alloc roomN) (.cells #[.slice ao l.length cap, .int .i64 (i : Int), .int .i64 0] 165); simpa using this, hr.later hB, fun b off e => by have := hlo b off e; omega⟩
 have hr0 : ((w.alloc roomN).alloc (.cells #[.slice ao l.length cap, .int .i64 (i : Int), .int .i64 0] 165)).heap[w.heap.size]? = some roomN := (hb2.block w.heap.size (by simp)).trans (heap_alloc_new w _)
 obtain ⟨w1, hw1⟩ : ∃ w1, (w.alloc roomN).alloc (.cells #[.slice ao l.length cap, .int .i64 (i : Int), .int .i64 0] 165) = w1 := ⟨_, rfl⟩
 have hsz : w1.heap.size = w.heap.size + 2 := by rw [← hw1]; simp
 rw [hw1] at hB hR hr0
 have hcall := calt 20 w1 (w.heap.size + 1) ao cap l i 0 hR hl hg rfl
 have HSZ := hide hsz
 have HI : Hid (E.alt 20 l i = E.alt 20 l i) := hide rfl
 generalize E.alt 20 l i = r at *
 have HW := hide hw1
 clear hb1 hb2 hsz hw1
 go_enter Tryz.func47, Tryz.ntmps47
 go_wp2_with fail
 rw [HW.out]
 refine hcall.mono ?_
 rintro e w2 ⟨hk, ⟨t, j, v, rfl, rfl, htr, hR2⟩ | ⟨c, j, dd, o', rfl, rfl, hc, hR2⟩⟩
 · have hr2 := hk.keep hr0 (by omega)
   have hB2 := hB.trans ((hk.mono (by have := HSZ.out; omega : w.heap.size ≤ w1.heap.size)).below (by omega))
   have htr := TR.mono (ok' := fun b => w.heap.size + 1 ≤ b) (fun b _ hb' => by have := HSZ.out; omega) t htr
   obtain ⟨dd, rfl, hdk, hda⟩ := htr.nd
   clear hdk hda hk hr0 hcall hR hB
   unfold ND.v at htr ⊢
   have hal := al1 w2 (.cells #[.int .i64 dd.k, .int .i64 dd.a, .slice dd.sp dd.sl dd.sc, .string dd.n, .slice dd.kp dd.kl dd.kc] 25)
   have hx8 := heap_alloc_new w2 (.cells #[.int .i64 dd.k, .int .i64 dd.a, .slice dd.sp dd.sl dd.sc, .string dd.n, .slice dd.kp dd.kl dd.kc] 25)
   have hR3 := hR2.later hal
   have hr3 := (hal.block w.heap.size (Array.getElem?_eq_some_iff.1 hr2).1).trans hr2
   have hB3 := nx hB2 hal
   have HT3 := hide (htr.below hal)
   obtain ⟨w3, hw3⟩ : ∃ w3, w2.alloc (.cells #[.int .i64 dd.k, .int .i64 dd.a, .slice dd.sp dd.sl dd.sc, .string dd.n, .slice dd.kp dd.kl dd.kc] 25) = w3 := ⟨_, rfl⟩
   rw [hw3] at hx8 hR3 hr3 hB3 HT3
   clear hal hR2 hr2 hB2 htr
   obtain ⟨c0, c1, c2⟩ := hR3.cells
   obtain ⟨m0, m1, m2, m3, m4⟩ := cells_five hx8
   obtain ⟨q0, q1, q2, q3, q4⟩ := cells_five hr3
   have g0 := frozen_row hr3 0
   have g1 := frozen_row hr3 1
   have g2 := frozen_row hr3 2
   have g3 := frozen_row hr3 3
   have g4 := frozen_row hr3 4
   have HB := hide hB3
   clear hB3
   go_wp2_with fail
   go_region
   obtain ⟨u0, u1, u2, u3, u4⟩ := cells_five (putN_box (v0 := .int .i64 dd.k) (v1 := .int .i64 dd.a) (v2 := .slice dd.sp dd.sl dd.sc) (v3 := .string dd.n) (v4 := .slice dd.kp dd.kl dd.kc) hr3)
   have HTP := hide (HT3.out.putN (v0 := .int .i64 dd.k) (v1 := .int .i64 dd.a) (v2 := .slice dd.sp dd.sl dd.sc) (v3 := .string dd.n) (v4 := .slice dd.kp dd.kl dd.kc) (roomN_noI hr3) (by show ¬ w.heap.size + 1 ≤ w.heap.size; omega))
   have HBP := hide (putN_below (b := w.heap.size) (v0 := .int .i64 dd.k) (v1 := .int .i64 dd.a) (v2 := .slice dd.sp dd.sl dd.sc) (v3 := .string dd.n) (v4 := .slice dd.kp dd.kl dd.kc) HB.out (Nat.le_refl _))
   unfold putN at u0 u1 u2 u3 u4 HTP HBP
   obtain ⟨w4, hw4⟩ : ∃ w4, ((((w3.setCell ⟨w.heap.size, 0, none⟩ (.int .i64 dd.k)).setCell ⟨w.heap.size, 1, none⟩ (.int .i64 dd.a)).setCell ⟨w.heap.size, 2, none⟩ (.slice dd.sp dd.sl dd.sc)).setCell ⟨w.heap.size, 3, none⟩ (.string dd.n)).setCell ⟨w.heap.size, 4, none⟩ (.slice dd.kp dd.kl dd.kc) = w4 := ⟨_, rfl⟩
   rw [hw4] at u0 u1 u2 u3 u4 HTP HBP ⊢
   clear hw4
   go_wp2
   exact bodyPost_ret (v := .tuple #[.agg #[.int .i64 dd.k, .int .i64 dd.a, .slice dd.sp dd.sl dd.sc, .string dd.n, .slice dd.kp dd.kl dd.kc], .int .i64 (j : Int), .int .i64 0]) (by simp [results, Tryz.results47, go_sem, u0, u1, u2, u3, u4]) rfl ⟨HBP.out.drew, .inl ⟨t, j, _, rfl, rfl, TR.mono (fun b _ hb => by show w.heap.size ≤ b; omega) _ (TR.later (w := w4) (W := w4.drew) (fun _ _ => rfl) _ HTP.out)⟩⟩
 · have hr2 := hk.keep hr0 (by omega)
   have hB2 := hB.trans ((hk.mono (by have := HSZ.out; omega : w.heap.size ≤ w1.heap.size)).below (by omega))
   clear hk hr0 hcall hR hB
   unfold ND.v
   have hal := al1 w2 (.cells #[.int .i64 dd.k, .int .i64 dd.a, .slice dd.sp dd.sl dd.sc, .string dd.n, .slice dd.kp dd.kl dd.kc] 25)
   have hR3 := hR2.later hal
   have hr3 := (hal.block w.heap.size (Array.getElem?_eq_some_iff.1 hr2).1).trans hr2
   have hB3 := nx hB2 hal
   obtain ⟨w3, hw3⟩ : ∃ w3, w2.alloc (.cells #[.int .i64 dd.k, .int .i64 dd.a, .slice dd.sp dd.sl dd.sc, .string dd.n, .slice dd.kp dd.kl dd.kc] 25) = w3 := ⟨_, rfl⟩
   rw [hw3] at hR3 hr3 hB3
   clear hal hR2 hr2 hB2
   obtain ⟨c0, c1, c2⟩ := hR3.cells
   obtain ⟨q0, q1, q2, q3, q4⟩ := cells_five hr3
   have g0 := frozen_row hr3 0
   have g1 := frozen_row hr3 1
   have g2 := frozen_row hr3 2
   have g3 := frozen_row hr3 3
   have g4 := frozen_row hr3 4
   have HB := hide hB3
   clear hB3
   go_wp2_with fail
   go_region
   obtain ⟨u0, u1, u2, u3, u4⟩ := cells_five (putN_box (v0 := .int .i64 0) (v1 := .int .i64 0) (v2 := .slice none 0 0) (v3 := .string ⟨#[]⟩) (v4 := .slice none 0 0) hr3)
   have HBP := hide (putN_below (b := w.heap.size) (v0 := .int .i64 0) (v1 := .int .i64 0) (v2 := .slice none 0 0) (v3 := .string ⟨#[]⟩) (v4 := .slice none 0 0) HB.out (Nat.le_refl _))
   unfold putN at u0 u1 u2 u3 u4 HBP
   obtain ⟨w4, hw4⟩ : ∃ w4, ((((w3.setCell ⟨w.heap.size, 0, none⟩ (.int .i64 0)).setCell ⟨w.heap.size, 1, none⟩ (.int .i64 0)).setCell ⟨w.heap.size, 2, none⟩ (.slice none 0 0)).setCell ⟨w.heap.size, 3, none⟩ (.string ⟨#[]⟩)).setCell ⟨w.heap.size, 4, none⟩ (.slice none 0 0) = w4 := ⟨_, rfl⟩
   rw [hw4] at u0 u1 u2 u3 u4 HBP ⊢
   clear hw4
   have HC := hide hc
   clear hc
   go_wp2
   exact bodyPost_ret (v := .tuple #[zN, .int .i64 (j : Int), .int .i64 (c : Int)]) (by unfold zN; simp [results, Tryz.results47, go_sem, u0, u1, u2, u3, u4]) rfl ⟨HBP.out.drew, .inr ⟨c, j, rfl, rfl, HC.out⟩⟩
end Go.Proofs.YtgngaldoemopjaaGreatDoor
