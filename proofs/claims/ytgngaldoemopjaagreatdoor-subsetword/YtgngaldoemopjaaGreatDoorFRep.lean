/- Joined: Prm Rep. -/
import Derived.Test.YtgngaldoemopjaaGreatDoorFRstx
namespace Go.Proofs.YtgngaldoemopjaaGreatDoor
open Go.RowKit
open E (T tk isS rpt beg)
theorem tr_var {W : World} {ok : Nat → Prop} (a : Int) (n : List UInt8) : TR W ok (.mk 2 a [] n []) (.agg #[.int .i64 2, .int .i64 a, .slice none 0 0, .string ⟨n.toArray⟩, .slice none 0 0]) := by
 rw [TR]
 exact ⟨none, 0, none, 0, rfl, U.rdr_nil _ _, Nat.le_refl _, by rw [KR]; trivial⟩
set_option maxRecDepth 100000 in
set_option maxHeartbeats 8000000 in
theorem prim_any (d : Nat) (hA : ∀ d', d = d' + 1 → CAlt d') {w : World} {R : Nat} {ao : Option Addr} {cap : Nat} {l : List E.Tok} {i o : Nat} (h : Rdr w R ao cap l i o) (hl : l.length ≤ 40000) (hg : E.Good l) (hd : o + d = 20) :
   Calls Tryz.prog 176 #[.pointer (some ⟨R, 0, none⟩)] w (AnsN (E.primD d l i) R ao cap l o w) := by
 have hRl := h.lt
 have h1 := h.later (al1 w roomN)
 have hr1 : (w.alloc roomN).heap[w.heap.size]? = some roomN := heap_alloc_new w _
 have hk1 : Kp w.heap.size R w (w.alloc roomN) := Kp.of (al1 w _)
 have HI : Hid (E.primD d l i = _) := hide (E.primD_eq d l i)
 have hgt := E.tk_good hg i
 have hli := E.tk_light hg i
 have hlt0 : (tk l i).1.kind ≠ 0 → i < l.length := E.tk_lt
 have hltS : ∀ c, isS (tk l i) c = true → i < l.length := fun c h => E.isS_lt h
 have hround := fun (W : World) (hR : Rdr W R ao cap l i o) (hi : i < l.length) => round_any d hA hR hl hg hd hi
 clear hA
 generalize E.roundD d l i = rr at *
 generalize E.square l i = rs at *
 generalize E.primD d l i = r at *
 have hn := next_any h1
 have H46 := fun W => isSign_any (tk l i) [46] W
 have H40 := fun W => isSign_any (tk l i) [40] W
 have H91 := fun W => isSign_any (tk l i) [91] W
 obtain ⟨t, ht⟩ : ∃ t, tk l i = t := ⟨_, rfl⟩
 rw [ht] at hn HI hli hgt hlt0 hltS H46 H40 H91
 unfold tokV at hn H46 H40 H91
 have HLI := hide hli
 clear hli
 by_cases k1 : t.1.kind = 1
 · have e1 : ((t.1.kind : Int) == 1) = true := by simp [k1]
   rw [if_pos k1] at HI
   have hi := hlt0 (by omega)
   clear k1 H46 H40 H91 hround hlt0 hltS
   go_enter Tryz.func176, Tryz.ntmps176
   go_wp2_with fail
   refine hn.mono ?_
   rintro e w1 ⟨rfl, hb1⟩
   have hal := al1 w1 (.cells #[.int .i64 (t.1.kind : Int), .int .i64 (t.2 : Int), .string ⟨t.1.text.toArray⟩, .int .i32 t.1.r] 111)
   have hR2 := (h1.later hb1).later hal
   have hr2 := (hal.block w.heap.size (by have := hb1.size; simp at this; omega)).trans ((hb1.block w.heap.size (by simp)).trans hr1)
   have hk2 := (hk1.nb (by simp) hb1).nb (by have := hb1.size; simp at this; omega) hal
   have hx4 := heap_alloc_new w1 (.cells #[.int .i64 (t.1.kind : Int), .int .i64 (t.2 : Int), .string ⟨t.1.text.toArray⟩, .int .i32 t.1.r] 111)
   have hs1 : w.heap.size + 1 ≤ w1.heap.size := by have := hb1.size; simpa using this
   obtain ⟨w2, hw2⟩ : ∃ w2, w1.alloc (.cells #[.int .i64 (t.1.kind : Int), .int .i64 (t.2 : Int), .string ⟨t.1.text.toArray⟩, .int .i32 t.1.r] 111) = w2 := ⟨_, rfl⟩
   rw [hw2] at hR2 hr2 hk2 hx4
   have hs2 : w.heap.size + 1 ≤ w2.heap.size := (Array.getElem?_eq_some_iff.1 hr2).1
   clear hal hb1 hn h1 hr1 hk1
   obtain ⟨a0, a1, a2, a3⟩ := cells_four hx4
   obtain ⟨p0, p1, p2⟩ := hR2.cells
   have f1 := hR2.frz 1
   have hR3 := hR2.put (i + 1)
   have hr3 := (Below.heap_setCell w2 ⟨R, 1, none⟩ (.int .i64 ((i + 1 : Nat) : Int)) w.heap.size (by show w.heap.size ≠ R; omega)).trans hr2
   have hk3 := hk2.set (p := ⟨R, 1, none⟩) (.inl rfl) (.int .i64 ((i + 1 : Nat) : Int))
   have hx5 := (Below.heap_setCell w2 ⟨R, 1, none⟩ (.int .i64 ((i + 1 : Nat) : Int)) w1.heap.size (by show w1.heap.size ≠ R; omega)).trans hx4
   rw [show ((i + 1 : Nat) : Int) = (i : Int) + 1 by omega] at hx5
   have HE : ((i + 1 : Nat) : Int) = (i : Int) + 1 := by omega
   rw [HE] at hR3 hr3 hk3
   clear HE
   obtain ⟨w3, hw3⟩ : ∃ w3, w2.setCell ⟨R, 1, none⟩ (.int .i64 ((i : Int) + 1)) = w3 := ⟨_, rfl⟩
   rw [hw3] at hR3 hr3 hk3
   rw [hw3] at hx5
   have hb4x : w1.heap.size < w3.heap.size := (Array.getElem?_eq_some_iff.1 hx5).1
   clear hR2 hr2 hk2 hx4
   obtain ⟨b0, b1, b2, b3⟩ := cells_four hx5
   have hcl := clone_any ⟨t.1.text.toArray⟩ (by have := hgt.2.2; show t.1.text.toArray.size ≤ 100000; simpa using this) w3.drew
   go_wp2_with fail
   refine Rst.start 6 (fun w' => Below w3.heap.size w3.drew w') (by kernel_rfl) ?_
   refine Rst.take (fun _ _ _ _ _ h => h) 0 _ 18 (.pointer (some ⟨w1.heap.size, 1, none⟩)) rfl (by kernel_rfl) rfl (by kernel_rfl) (by kernel_rfl) (Below.refl _ _) (fun wx hb => by kernel_rfl) ?_
   refine Rst.take (fun _ _ _ _ _ h => h) 1 _ 19 (.int .i64 (t.2 : Int)) rfl (by kernel_rfl) rfl (by kernel_rfl) (by kernel_rfl) (Below.refl _ _) (fun wx hb => Reg.ld1 rfl (by kernel_rfl) ((hb.cell (p := ⟨w1.heap.size, 1, none⟩) hb4x).trans b1) (Tryz.isAgg3 _)) ?_
   refine Rst.take (fun _ _ _ _ _ h => h) 2 _ 20 (.pointer (some ⟨w1.heap.size, 2, none⟩)) rfl (by kernel_rfl) rfl (by kernel_rfl) (by kernel_rfl) (Below.refl _ _) (fun wx hb => by kernel_rfl) ?_
   refine Rst.take (fun _ _ _ _ _ h => h) 3 _ 21 (.string ⟨t.1.text.toArray⟩) rfl (by kernel_rfl) rfl (by kernel_rfl) (by kernel_rfl) (Below.refl _ _) (fun wx hb => Reg.ld1 rfl (by kernel_rfl) ((hb.cell (p := ⟨w1.heap.size, 2, none⟩) hb4x).trans b2) (Tryz.isAgg9 _)) ?_
   refine Rst.call 4 _ 22 60 _ _ #[.string ⟨t.1.text.toArray⟩] rfl (by kernel_rfl) rfl (by kernel_rfl) (by kernel_rfl) rfl (by kernel_rfl) (by kernel_rfl) hcl ?_
   rintro e w4 ⟨rfl, hb4⟩
   refine ⟨_, rfl, hb4, ?_⟩
   have hr4 := (hb4.block w.heap.size (Array.getElem?_eq_some_iff.1 hr3).1).trans hr3
   have hR4 := hR3.later (W := w4) ((Below.refl _ w3).drew.trans hb4)
   have hk4 := hk3.nb hk3.size ((Below.refl _ w3).drew.trans hb4)
   refine Rst.only 5 _ 23 rfl (by kernel_rfl) rfl (by kernel_rfl) (by kernel_rfl) ⟨.agg #[.int .i64 2, .int .i64 (t.2 : Int), .slice none 0 0, .string ⟨t.1.text.toArray⟩, .slice none 0 0], w4, by kernel_rfl, hb4, ?_⟩
   refine Rst.last _ rfl (by kernel_rfl) rfl (by kernel_rfl) (by kernel_rfl) ⟨_, Reg.stN rfl rfl rfl hr4, ?_⟩
   refine Rst.after 7 _ 3 rfl (by kernel_rfl) rfl (by kernel_rfl) (by kernel_rfl) (by kernel_rfl) ⟨.int .i64 0, putN w4 w.heap.size (.int .i64 2) (.int .i64 (t.2 : Int)) (.slice none 0 0) (.string ⟨t.1.text.toArray⟩) (.slice none 0 0), by kernel_rfl, ?_⟩
   refine Rst.done (by kernel_rfl) ?_
   simp only [Reg.ov, Act.put, List.setIfInBounds_toArray, List.set_cons_succ, List.set_cons_zero]
   obtain ⟨u0, u1, u2, u3, u4⟩ := cells_five (putN_box (v0 := .int .i64 2) (v1 := .int .i64 (t.2 : Int)) (v2 := .slice none 0 0) (v3 := .string ⟨t.1.text.toArray⟩) (v4 := .slice none 0 0) hr4)
   have HK := hide hk4
   clear hk4
   go_wp2
   exact bodyPost_ret (w := putN w4 w.heap.size _ _ _ _ _) (v := .tuple #[.agg #[.int .i64 2, .int .i64 (t.2 : Int), .slice none 0 0, .string ⟨t.1.text.toArray⟩, .slice none 0 0], .int .i64 0]) (by simp [results, Tryz.results176, go_sem, u0, u1, u2, u3, u4]) rfl ⟨putN_kp HK.out (Nat.le_refl _), .inl ⟨_, i + 1, _, HI.out, rfl, tr_var _ _, hR4.putN h.lt _ _ _ _ _⟩⟩
 have e1 : ((t.1.kind : Int) == 1) = false := by simp; omega
 rw [if_neg k1] at HI
 clear k1
 by_cases k4 : t.1.kind = 4
 · have e4 : ((t.1.kind : Int) == 4) = true := by simp [k4]
   rw [if_pos k4] at HI
   have hi := hlt0 (by omega)
   clear k4 H46 H40 H91 hround hlt0 hltS
   have hone := fun W => oneRange_any t t W
   unfold tokV at hone
   go_enter Tryz.func176, Tryz.ntmps176
   go_wp2_with fail
   refine hn.mono ?_
   rintro e w1 ⟨rfl, hb1⟩
   have hal := al1 w1 (.cells #[.int .i64 (t.1.kind : Int), .int .i64 (t.2 : Int), .string ⟨t.1.text.toArray⟩, .int .i32 t.1.r] 111)
   have hR2 := (h1.later hb1).later hal
   have hr2 := (hal.block w.heap.size (by have := hb1.size; simp at this; omega)).trans ((hb1.block w.heap.size (by simp)).trans hr1)
   have hk2 := (hk1.nb (by simp) hb1).nb (by have := hb1.size; simp at this; omega) hal
   have hx4 := heap_alloc_new w1 (.cells #[.int .i64 (t.1.kind : Int), .int .i64 (t.2 : Int), .string ⟨t.1.text.toArray⟩, .int .i32 t.1.r] 111)
   have hs1 : w.heap.size + 1 ≤ w1.heap.size := by have := hb1.size; simpa using this
   obtain ⟨w2, hw2⟩ : ∃ w2, w1.alloc (.cells #[.int .i64 (t.1.kind : Int), .int .i64 (t.2 : Int), .string ⟨t.1.text.toArray⟩, .int .i32 t.1.r] 111) = w2 := ⟨_, rfl⟩
   rw [hw2] at hR2 hr2 hk2 hx4
   have hs2 : w.heap.size + 1 ≤ w2.heap.size := (Array.getElem?_eq_some_iff.1 hr2).1
   clear hal hb1 hn h1 hr1 hk1
   obtain ⟨a0, a1, a2, a3⟩ := cells_four hx4
   go_wp2_with fail
   refine (hone _).mono ?_
   rintro e w3 ⟨ap, rfl, hrd, hb⟩
   have hR3 := hR2.later hb
   have hr3 := (hb.block w.heap.size (Array.getElem?_eq_some_iff.1 hr2).1).trans hr2
   have hk3 := hk2.nb hk2.size hb
   clear hb hR2 hr2 hk2
   have hnm := U.norm_any ap 1 [(t.1.r, t.1.r)] (by simp) w3 hrd
   rw [normL_eq, normE_eq, (n_one hgt.1 (Int.le_refl _) hgt.2.1).1, (n_one hgt.1 (Int.le_refl _) hgt.2.1).2] at hnm
   go_wp2_with fail
   refine hnm.mono ?_
   rintro e w4 ⟨sp, sc, rfl, hrS, hnS, hb⟩
   clear hnS
   have hR4 := hR3.later hb
   have hr4 := (hb.block w.heap.size (Array.getElem?_eq_some_iff.1 hr3).1).trans hr3
   have hk4 := hk3.nb hk3.size hb
   clear hb hR3 hr3 hk3
   have hsg := single_ok hR4 (by omega) sp 1 sc
   rw [ht] at hsg
   go_wp2_with fail
   refine hsg.mono ?_
   rintro e y1 ⟨rfl, hRy, hky⟩
   have hry := hky.keep hr4 (by omega)
   have hSy := rdr_but hrS (fun k hk' hne => hky.block k hk' hne) hR4.noI
   have hk := hk4.nx hk4.size hky
   clear hky hr4 hk4 hR4
   obtain ⟨q0, q1, q2, q3, q4⟩ := cells_five hry
   have g0 := frozen_row hry 0
   have g1 := frozen_row hry 1
   have g2 := frozen_row hry 2
   have g3 := frozen_row hry 3
   have g4 := frozen_row hry 4
   have HK := hide hk
   have HS := hide hSy
   clear hk hSy
   go_wp2
   obtain ⟨u0, u1, u2, u3, u4⟩ := cells_five (putN_box (v0 := .int .i64 1) (v1 := .int .i64 (t.2 : Int)) (v2 := .slice sp 1 sc) (v3 := .string ⟨#[]⟩) (v4 := .slice none 0 0) hry)
   exact bodyPost_ret (w := putN y1 w.heap.size _ _ _ _ _) (v := .tuple #[.agg #[.int .i64 1, .int .i64 (t.2 : Int), .slice sp 1 sc, .string ⟨#[]⟩, .slice none 0 0], .int .i64 0]) (by simp [results, Tryz.results176, go_sem, u0, u1, u2, u3, u4]) rfl ⟨putN_kp HK.out (Nat.le_refl _), .inl ⟨_, i + 1, _, HI.out, rfl, tr_set _ _ (rdr_putN HS.out (roomN_noI hry)), hRy.putN h.lt _ _ _ _ _⟩⟩
 have e4 : ((t.1.kind : Int) == 4) = false := by simp; omega
 rw [if_neg k4] at HI
 clear k4
 by_cases k5 : t.1.kind = 5
 · exact absurd k5 HLI.out.1
 have e5 : ((t.1.kind : Int) == 5) = false := by simp; omega
 rw [if_neg k5] at HI
 clear k5 hlt0
 cases q46 : isS t [46] with
 | true =>
   exact absurd (q46.symm.trans HLI.out.2.2) (by decide)
 | false =>
 rw [q46] at H46 HI
 rw [if_neg (by decide)] at HI
 clear q46
 cases q40 : isS t [40] with
 | true =>
   rw [q40] at H40 HI
   rw [if_pos rfl] at HI
   have hi := hltS _ q40
   clear q40 H91 hltS
   go_enter Tryz.func176, Tryz.ntmps176
   go_wp2_with fail
   refine hn.mono ?_
   rintro e w1 ⟨rfl, hb1⟩
   have hal := al1 w1 (.cells #[.int .i64 (t.1.kind : Int), .int .i64 (t.2 : Int), .string ⟨t.1.text.toArray⟩, .int .i32 t.1.r] 111)
   have hR2 := (h1.later hb1).later hal
   have hr2 := (hal.block w.heap.size (by have := hb1.size; simp at this; omega)).trans ((hb1.block w.heap.size (by simp)).trans hr1)
   have hk2 := (hk1.nb (by simp) hb1).nb (by have := hb1.size; simp at this; omega) hal
   have hx4 := heap_alloc_new w1 (.cells #[.int .i64 (t.1.kind : Int), .int .i64 (t.2 : Int), .string ⟨t.1.text.toArray⟩, .int .i32 t.1.r] 111)
   have hs1 : w.heap.size + 1 ≤ w1.heap.size := by have := hb1.size; simpa using this
   obtain ⟨w2, hw2⟩ : ∃ w2, w1.alloc (.cells #[.int .i64 (t.1.kind : Int), .int .i64 (t.2 : Int), .string ⟨t.1.text.toArray⟩, .int .i32 t.1.r] 111) = w2 := ⟨_, rfl⟩
   rw [hw2] at hR2 hr2 hk2 hx4
   have hs2 : w.heap.size + 1 ≤ w2.heap.size := (Array.getElem?_eq_some_iff.1 hr2).1
   clear hal hb1 hn h1 hr1 hk1
   obtain ⟨a0, a1, a2, a3⟩ := cells_four hx4
   go_wp2_with fail
   refine (H46 _).mono ?_
   rintro e w3 ⟨rfl, hb⟩
   have hR3 := hR2.later hb
   have hr3 := (hb.block w.heap.size (Array.getElem?_eq_some_iff.1 hr2).1).trans hr2
   have hk3 := hk2.nb hk2.size hb
   have hx5 := (hb.block w1.heap.size (Array.getElem?_eq_some_iff.1 hx4).1).trans hx4
   have hs3 : w.heap.size + 1 ≤ w3.heap.size := (Array.getElem?_eq_some_iff.1 hr3).1
   clear hb hR2 hr2 hk2 hx4
   obtain ⟨a0, a1, a2, a3⟩ := cells_four hx5
   go_wp2_with fail
   refine (H40 _).mono ?_
   rintro e w4 ⟨rfl, hb⟩
   have hR4 := hR3.later hb
   have hr4 := (hb.block w.heap.size (Array.getElem?_eq_some_iff.1 hr3).1).trans hr3
   have hk4 := hk3.nb hk3.size hb
   have hx6 := (hb.block w1.heap.size (Array.getElem?_eq_some_iff.1 hx5).1).trans hx5
   have hs4 : w.heap.size + 1 ≤ w4.heap.size := (Array.getElem?_eq_some_iff.1 hr4).1
   clear hb hR3 hr3 hk3 hx5
   obtain ⟨a0, a1, a2, a3⟩ := cells_four hx6
   have hcall := hround _ hR4 hi
   go_wp2_with fail
   refine hcall.mono ?_
   rintro e y1 ⟨hky, ⟨t', j, v, hE, rfl, htr, hRy⟩ | ⟨c, j, dd, o', hE, rfl, hc, hRy⟩⟩
   · have hry := hky.keep hr4 (by omega)
     have hk := hk4.nx hk4.size hky
     have HO : Hid (r = .ok (t', j)) := hide (HI.out.trans hE)
     have htr := TR.mono (ok' := fun b => w.heap.size + 1 ≤ b) (fun b _ hb => Nat.le_trans hs4 hb) t' htr
     obtain ⟨dd, rfl, hdk, hda⟩ := htr.nd
     clear hdk hda hE hky hr4 hk4 hR4 HI
     unfold ND.v at htr ⊢
     obtain ⟨q0, q1, q2, q3, q4⟩ := cells_five hry
     have g0 := frozen_row hry 0
     have g1 := frozen_row hry 1
     have g2 := frozen_row hry 2
     have g3 := frozen_row hry 3
     have g4 := frozen_row hry 4
     have HK := hide hk
     have HT := hide htr
     clear hk htr
     go_wp2
     obtain ⟨u0, u1, u2, u3, u4⟩ := cells_five (putN_box (v0 := .int .i64 dd.k) (v1 := .int .i64 dd.a) (v2 := .slice dd.sp dd.sl dd.sc) (v3 := .string dd.n) (v4 := .slice dd.kp dd.kl dd.kc) hry)
     exact bodyPost_ret (w := putN y1 w.heap.size _ _ _ _ _) (v := .tuple #[.agg #[.int .i64 dd.k, .int .i64 dd.a, .slice dd.sp dd.sl dd.sc, .string dd.n, .slice dd.kp dd.kl dd.kc], .int .i64 0]) (by simp [results, Tryz.results176, go_sem, u0, u1, u2, u3, u4]) rfl ⟨putN_kp HK.out (Nat.le_refl _), .inl ⟨_, j, _, HO.out, rfl, TR.mono (fun b _ hb => by show w.heap.size ≤ b; omega) _ (HT.out.putN (roomN_noI hry) (by show ¬ w.heap.size + 1 ≤ w.heap.size; omega)), hRy.putN h.lt _ _ _ _ _⟩⟩
   · have hry := hky.keep hr4 (by omega)
     have hk := hk4.nx hk4.size hky
     have HO : Hid (r = .error (c, j)) := hide (HI.out.trans hE)
     clear hE hky hr4 hk4 hR4 HI
     unfold ND.v
     obtain ⟨q0, q1, q2, q3, q4⟩ := cells_five hry
     have g0 := frozen_row hry 0
     have g1 := frozen_row hry 1
     have g2 := frozen_row hry 2
     have g3 := frozen_row hry 3
     have g4 := frozen_row hry 4
     have HK := hide hk
     have HC := hide hc
     clear hk hc
     go_wp2
     obtain ⟨u0, u1, u2, u3, u4⟩ := cells_five (putN_box (v0 := .int .i64 dd.k) (v1 := .int .i64 dd.a) (v2 := .slice dd.sp dd.sl dd.sc) (v3 := .string dd.n) (v4 := .slice dd.kp dd.kl dd.kc) hry)
     exact bodyPost_ret (w := putN y1 w.heap.size _ _ _ _ _) (v := .tuple #[.agg #[.int .i64 dd.k, .int .i64 dd.a, .slice dd.sp dd.sl dd.sc, .string dd.n, .slice dd.kp dd.kl dd.kc], .int .i64 (c : Int)]) (by simp [results, Tryz.results176, go_sem, u0, u1, u2, u3, u4]) rfl ⟨putN_kp HK.out (Nat.le_refl _), .inr ⟨c, j, dd, o', HO.out, rfl, HC.out, hRy.putN h.lt _ _ _ _ _⟩⟩
 | false =>
 rw [q40] at H40 HI
 rw [if_neg (by decide)] at HI
 clear q40 hround
 cases q91 : isS t [91] with
 | true =>
   exact absurd (q91.symm.trans HLI.out.2.1) (by decide)
 | false =>
   rw [q91] at H91 HI
   rw [if_neg (by decide)] at HI
   clear q91 hltS
   have HCC : ((((70 : Nat) : Int)) != 0) = true := rfl
   go_enter Tryz.func176, Tryz.ntmps176
   go_wp2_with fail
   refine hn.mono ?_
   rintro e w1 ⟨rfl, hb1⟩
   have hal := al1 w1 (.cells #[.int .i64 (t.1.kind : Int), .int .i64 (t.2 : Int), .string ⟨t.1.text.toArray⟩, .int .i32 t.1.r] 111)
   have hR2 := (h1.later hb1).later hal
   have hr2 := (hal.block w.heap.size (by have := hb1.size; simp at this; omega)).trans ((hb1.block w.heap.size (by simp)).trans hr1)
   have hk2 := (hk1.nb (by simp) hb1).nb (by have := hb1.size; simp at this; omega) hal
   have hx4 := heap_alloc_new w1 (.cells #[.int .i64 (t.1.kind : Int), .int .i64 (t.2 : Int), .string ⟨t.1.text.toArray⟩, .int .i32 t.1.r] 111)
   have hs1 : w.heap.size + 1 ≤ w1.heap.size := by have := hb1.size; simpa using this
   obtain ⟨w2, hw2⟩ : ∃ w2, w1.alloc (.cells #[.int .i64 (t.1.kind : Int), .int .i64 (t.2 : Int), .string ⟨t.1.text.toArray⟩, .int .i32 t.1.r] 111) = w2 := ⟨_, rfl⟩
   rw [hw2] at hR2 hr2 hk2 hx4
   have hs2 : w.heap.size + 1 ≤ w2.heap.size := (Array.getElem?_eq_some_iff.1 hr2).1
   clear hal hb1 hn h1 hr1 hk1
   obtain ⟨a0, a1, a2, a3⟩ := cells_four hx4
   go_wp2_with fail
   refine (H46 _).mono ?_
   rintro e w3 ⟨rfl, hb⟩
   have hR3 := hR2.later hb
   have hr3 := (hb.block w.heap.size (Array.getElem?_eq_some_iff.1 hr2).1).trans hr2
   have hk3 := hk2.nb hk2.size hb
   have hx5 := (hb.block w1.heap.size (Array.getElem?_eq_some_iff.1 hx4).1).trans hx4
   have hs3 : w.heap.size + 1 ≤ w3.heap.size := (Array.getElem?_eq_some_iff.1 hr3).1
   clear hb hR2 hr2 hk2 hx4
   obtain ⟨a0, a1, a2, a3⟩ := cells_four hx5
   go_wp2_with fail
   refine (H40 _).mono ?_
   rintro e w4 ⟨rfl, hb⟩
   have hR4 := hR3.later hb
   have hr4 := (hb.block w.heap.size (Array.getElem?_eq_some_iff.1 hr3).1).trans hr3
   have hk4 := hk3.nb hk3.size hb
   have hx6 := (hb.block w1.heap.size (Array.getElem?_eq_some_iff.1 hx5).1).trans hx5
   have hs4 : w.heap.size + 1 ≤ w4.heap.size := (Array.getElem?_eq_some_iff.1 hr4).1
   clear hb hR3 hr3 hk3 hx5
   obtain ⟨a0, a1, a2, a3⟩ := cells_four hx6
   go_wp2_with fail
   refine (H91 _).mono ?_
   rintro e w5 ⟨rfl, hb⟩
   have hR5 := hR4.later hb
   have hr5 := (hb.block w.heap.size (Array.getElem?_eq_some_iff.1 hr4).1).trans hr4
   have hk5 := hk4.nb hk4.size hb
   have hx7 := (hb.block w1.heap.size (Array.getElem?_eq_some_iff.1 hx6).1).trans hx6
   have hs5 : w.heap.size + 1 ≤ w5.heap.size := (Array.getElem?_eq_some_iff.1 hr5).1
   clear hb hR4 hr4 hk4 hx6
   obtain ⟨a0, a1, a2, a3⟩ := cells_four hx7
   obtain ⟨q0, q1, q2, q3, q4⟩ := cells_five hr5
   have g0 := frozen_row hr5 0
   have g1 := frozen_row hr5 1
   have g2 := frozen_row hr5 2
   have g3 := frozen_row hr5 3
   have g4 := frozen_row hr5 4
   have HKY := hide hk5
   have hRz := hide hR5
   clear hk5
   go_wp2
   obtain ⟨u0, u1, u2, u3, u4⟩ := cells_five (putN_box (v0 := .int .i64 0) (v1 := .int .i64 0) (v2 := .slice none 0 0) (v3 := .string ⟨#[]⟩) (v4 := .slice none 0 0) hr5)
   exact bodyPost_ret (w := putN w5 w.heap.size _ _ _ _ _) (v := .tuple #[zN, .int .i64 (70 : Int)]) (by unfold zN; simp [results, Tryz.results176, go_sem, u0, u1, u2, u3, u4]) rfl ⟨putN_kp HKY.out (Nat.le_refl _), .inr ⟨70, _, ⟨0, 0, none, 0, 0, ⟨#[]⟩, none, 0, 0⟩, o, HI.out, rfl, HCC, hRz.out.putN h.lt _ _ _ _ _⟩⟩
end Go.Proofs.YtgngaldoemopjaaGreatDoor
namespace Go.Proofs.YtgngaldoemopjaaGreatDoor
open Go.RowKit
open E (T tk isS rpt beg)
theorem nd_cells {W : World} {b o : Nat} {cs : List Value} {t : TypeId} {d : ND} {pre post : List Value} (h : W.heap[b]? = some (.cells cs.toArray t)) (hc : cs = pre ++ d.cs ++ post) (ho : pre.length = o) : Cells5 W b o d.v := by
 subst hc ho
 have key : ∀ j, j < 5 → W.cell? ⟨b, pre.length + j, none⟩ = d.cs[j]? := by
   intro j hj
   simp only [World.cell?, h, List.getElem?_toArray]
   rw [List.append_assoc, List.getElem?_append_right (by omega), show pre.length + j - pre.length = j by omega, List.getElem?_append_left (by simp [ND.cs]; omega)]
   rfl
 exact ⟨_, _, _, _, _, rfl, key 0 (by omega), key 1 (by omega), key 2 (by omega), key 3 (by omega), key 4 (by omega)⟩
theorem tr_one {W : World} {ok : Nat → Prop} {b : Nat} {t : T} {d : ND} (k : Int) (h : W.heap[b]? = some (.cells d.cs.toArray 25)) (hok : ok b) (ht : TR W ok t d.v) (ha : d.a = t.at_) :
   TR W ok (.mk k t.at_ [] [] [t]) (.agg #[.int .i64 k, .int .i64 d.a, .slice none 0 0, .string ⟨#[]⟩, .slice (some ⟨b, 0, none⟩) 1 1]) := by
 rw [TR, ha]
 refine ⟨none, 0, some ⟨b, 0, none⟩, 1, rfl, U.rdr_nil _ _, Nat.le_refl _, ?_⟩
 rw [KR]
 exact ⟨⟨b, 0, d.v, rfl, hok, ht, nd_cells (pre := []) (post := []) h (by simp) rfl⟩, by rw [KR]; trivial⟩
theorem tr_two {W : World} {ok : Nat → Prop} {b : Nat} {t u : T} {d e : ND} (k : Int) (h : W.heap[b]? = some (.cells (d.cs ++ e.cs).toArray 25)) (hok : ok b) (ht : TR W ok t d.v) (hu : TR W ok u e.v) (ha : d.a = t.at_) :
   TR W ok (.mk k t.at_ [] [] [t, u]) (.agg #[.int .i64 k, .int .i64 d.a, .slice none 0 0, .string ⟨#[]⟩, .slice (some ⟨b, 0, none⟩) 2 2]) := by
 rw [TR, ha]
 refine ⟨none, 0, some ⟨b, 0, none⟩, 2, rfl, U.rdr_nil _ _, Nat.le_refl _, ?_⟩
 rw [KR, KR, KR]
 exact ⟨⟨b, 0, d.v, rfl, hok, ht, nd_cells (pre := []) (post := e.cs) h (by simp) rfl⟩, ⟨b, 0, e.v, rfl, hok, hu, nd_cells (pre := d.cs) (post := []) h (by simp) (by simp [ND.cs])⟩, trivial⟩
theorem repL_stop {l : List E.Tok} {j : Nat} (h : rpt (tk l j) = 0) (n : Nat) (t : T) : E.repL n l j t = (t, j) := by
 cases n with
 | zero => rfl
 | succ n => rw [E.repL, if_pos h]
theorem repL_step {l : List E.Tok} {j : Nat} (h : ¬ rpt (tk l j) = 0) (n : Nat) (t : T) : E.repL (n + 1) l j t = E.repL n l (j + 1) (.mk (rpt (tk l j)) t.at_ [] [] [t]) := by
 rw [E.repL, if_neg h]
set_option maxRecDepth 100000 in
set_option maxHeartbeats 8000000 in
theorem rep_any (d : Nat) (hA : ∀ d', d = d' + 1 → CAlt d') {w : World} {R : Nat} {ao : Option Addr} {cap : Nat} {l : List E.Tok} {i o : Nat} (h : Rdr w R ao cap l i o) (hl : l.length ≤ 40000) (hg : E.Good l) (hd : o + d = 20) :
   Calls Tryz.prog 147 #[.pointer (some ⟨R, 0, none⟩)] w (AnsN (E.repD d l i) R ao cap l o w) := by
 have hRl := h.lt
 have h1 := h.later (al1 w roomN)
 have hr1 : (w.alloc roomN).heap[w.heap.size]? = some roomN := heap_alloc_new w _
 have hk1 : Kp w.heap.size R w (w.alloc roomN) := Kp.of (al1 w _)
 have HI : Hid (E.repD d l i = match E.primD d l i with | .error e => .error e | .ok (t, j) => .ok (E.repL l.length l j t)) := hide rfl
 have hfar := E.primD_far l d i
 have hp := prim_any d hA h1 hl hg hd
 generalize E.repD d l i = r at *
 clear hA
 go_enter Tryz.func147, Tryz.ntmps147
 go_wp2_with fail
 refine hp.mono ?_
 rintro e w1 ⟨hk, ⟨t0, j0, v, hE, rfl, htr, hR1⟩ | ⟨c, j, dd, o', hE, rfl, hc, hR1⟩⟩
 · have hr2 := hk.keep hr1 (by omega)
   have hk2 := hk1.nx (by simp) hk
   have hs1 : w.heap.size + 1 ≤ w1.heap.size := (Array.getElem?_eq_some_iff.1 hr2).1
   have hj0 := (hfar t0 j0 hE).2
   have HI2 : Hid (r = .ok (E.repL l.length l j0 t0)) := hide (by rw [HI.out, hE])
   have htr := TR.mono (ok' := fun b => w.heap.size + 1 ≤ b ∧ b ≠ w1.heap.size) (fun b hb hb' => ⟨by simpa using hb', by omega⟩) t0 htr
   obtain ⟨dd, rfl, hdk, hda⟩ := htr.nd
   have HDA := hide hda
   clear hdk hda hE hk hr1 hk1 hp HI hfar h1
   unfold ND.v
   have hal := al1 w1 (.cells #[.int .i64 dd.k, .int .i64 dd.a, .slice dd.sp dd.sl dd.sc, .string dd.n, .slice dd.kp dd.kl dd.kc] 25)
   have hx4 := heap_alloc_new w1 (.cells #[.int .i64 dd.k, .int .i64 dd.a, .slice dd.sp dd.sl dd.sc, .string dd.n, .slice dd.kp dd.kl dd.kc] 25)
   have hR2 := hR1.later hal
   have hr3 := (hal.block w.heap.size hs1).trans hr2
   have hk3 := hk2.nb hk2.size hal
   have htr2 := htr.below hal
   clear hal hR1 hr2 hk2 htr
   go_wp2
   go_loopw [6] (fun _ wr => ∃ (j n : Nat) (t : T) (dd : ND), Hid (dd.a = t.at_) ∧ Hid (TR wr (fun b => w.heap.size + 1 ≤ b ∧ b ≠ w1.heap.size) t dd.v) ∧ wr.heap[w1.heap.size]? = some (.cells #[.int .i64 dd.k, .int .i64 dd.a, .slice dd.sp dd.sl dd.sc, .string dd.n, .slice dd.kp dd.kl dd.kc] 25) ∧ Rdr wr R ao cap l j o ∧ Kp w.heap.size R w wr ∧ wr.heap[w.heap.size]? = some roomN ∧ j ≤ l.length ∧ Hid (l.length - j ≤ n) ∧ Hid (E.repL l.length l j0 t0 = E.repL n l j t)) (fun _ wr => l.length - rdAt wr R)
   case atStart => exact ⟨j0, l.length, t0, dd, HDA, hide htr2, hx4, hR2, hk3, hr3, hj0, hide (by omega), hide rfl⟩
   case round =>
     obtain ⟨j, n, t, dd, HDA, HT, hx, hR, hk, hr, hj, HN, HL⟩ := hrel
     have hnx := next_any hR
     have hrp := fun W => repeating_any (tk l j) W
     have hlt : ¬ rpt (tk l j) = 0 → j < l.length := E.rpt_lt
     obtain ⟨tj, htj⟩ : ∃ tj, tk l j = tj := ⟨_, rfl⟩
     by_cases hz : rpt (tk l j) = 0
     · have HO : Hid (r = .ok (t, j)) := hide (by rw [HI2.out, HL.out, repL_stop hz])
       rw [hz] at hrp
       rw [htj] at hnx hrp
       unfold tokV at hnx hrp
       clear hz hlt HL HN htj
       go_wp2_with fail
       refine hnx.mono ?_
       rintro e x1 ⟨rfl, hb1⟩
       go_wp2_with fail
       refine (hrp _).mono ?_
       rintro e x2 ⟨rfl, hb2⟩
       have hB := nx hb1 hb2
       have hR2 := hR.later hB
       have hr2 := (hB.block w.heap.size (Array.getElem?_eq_some_iff.1 hr).1).trans hr
       have hx2 := (hB.block w1.heap.size (Array.getElem?_eq_some_iff.1 hx).1).trans hx
       have hk2 := hk.nb hk.size hB
       have HT2 := hide (HT.out.below hB)
       clear hB hb1 hb2 hR hr hx hk HT hnx
       obtain ⟨m0, m1, m2, m3, m4⟩ := cells_five hx2
       obtain ⟨q0, q1, q2, q3, q4⟩ := cells_five hr2
       have g0 := frozen_row hr2 0
       have g1 := frozen_row hr2 1
       have g2 := frozen_row hr2 2
       have g3 := frozen_row hr2 3
       have g4 := frozen_row hr2 4
       have HK := hide hk2
       clear hk2
       go_wp2
       obtain ⟨u0, u1, u2, u3, u4⟩ := cells_five (putN_box (v0 := .int .i64 dd.k) (v1 := .int .i64 dd.a) (v2 := .slice dd.sp dd.sl dd.sc) (v3 := .string dd.n) (v4 := .slice dd.kp dd.kl dd.kc) hr2)
       exact bodyPost_ret (w := putN x2 w.heap.size _ _ _ _ _) (v := .tuple #[.agg #[.int .i64 dd.k, .int .i64 dd.a, .slice dd.sp dd.sl dd.sc, .string dd.n, .slice dd.kp dd.kl dd.kc], .int .i64 0]) (by simp [results, Tryz.results147, go_sem, u0, u1, u2, u3, u4]) rfl ⟨putN_kp HK.out (Nat.le_refl _), .inl ⟨_, j, _, HO.out, rfl, TR.mono (fun b _ hb => by show w.heap.size ≤ b; omega) _ (HT2.out.putN (roomN_noI hr2) (by rintro ⟨hh, _⟩; omega)), hR2.putN h.lt _ _ _ _ _⟩⟩
     · have hjl := hlt hz
       obtain ⟨m, HM⟩ : ∃ m, Hid (n = m + 1) := ⟨n - 1, hide (by have := HN.out; omega)⟩
       have HL2 : Hid (E.repL l.length l j0 t0 = E.repL m l (j + 1) (.mk (rpt (tk l j)) t.at_ [] [] [t])) := hide (by rw [HL.out, HM.out, repL_step hz])
       have hez : ((rpt (tk l j) : Int) == 0) = false := by simp; omega
       rw [htj] at hnx hrp hez HL2
       obtain ⟨kk, hkk⟩ : ∃ kk, rpt tj = kk := ⟨_, rfl⟩
       rw [hkk] at hrp hez HL2
       unfold tokV at hnx hrp
       have HAT := hide hR.at_
       clear hz hlt HL htj hkk
       go_wp2_with fail
       refine hnx.mono ?_
       rintro e x1 ⟨rfl, hb1⟩
       go_wp2_with fail
       refine (hrp _).mono ?_
       rintro e x2 ⟨rfl, hb2⟩
       have hB := nx hb1 hb2
       have hR2 := hR.later hB
       have hr2 := (hB.block w.heap.size (Array.getElem?_eq_some_iff.1 hr).1).trans hr
       have hx2 := (hB.block w1.heap.size (Array.getElem?_eq_some_iff.1 hx).1).trans hx
       have hk2 := hk.nb hk.size hB
       have HT2 := hide (HT.out.below hB)
       clear hB hb1 hb2 hR hr hx hk HT hnx
       obtain ⟨z0, z1, z2⟩ := hR2.cells
       have z3 := hR2.frz 1
       have HT3 := hide (HT2.out.put (j := 1) (u := .int .i64 ((j + 1 : Nat) : Int)) hR2.noI (by rintro ⟨hh, _⟩; omega))
       have hx3 := (Below.heap_setCell x2 ⟨R, 1, none⟩ (.int .i64 ((j + 1 : Nat) : Int)) w1.heap.size (by show w1.heap.size ≠ R; omega)).trans hx2
       rw [show ((j + 1 : Nat) : Int) = (j : Int) + 1 by omega] at HT3 hx3
       have hR3 := hR2.put (j + 1)
       have hr3 := (Below.heap_setCell x2 ⟨R, 1, none⟩ (.int .i64 ((j + 1 : Nat) : Int)) w.heap.size (by show w.heap.size ≠ R; omega)).trans hr2
       have hk3 := hk2.set (p := ⟨R, 1, none⟩) (.inl rfl) (.int .i64 ((j + 1 : Nat) : Int))
       have HE : ((j + 1 : Nat) : Int) = (j : Int) + 1 := by omega
       rw [HE] at hR3 hr3 hk3
       clear HE
       obtain ⟨x3, hx3_⟩ : ∃ x3, x2.setCell ⟨R, 1, none⟩ (.int .i64 ((j : Int) + 1)) = x3 := ⟨_, rfl⟩
       rw [hx3_] at hR3 hr3 hk3
       rw [hx3_] at HT3 hx3
       clear HT2 hR2 hr2 hk2 hx2
       obtain ⟨m0, m1, m2, m3, m4⟩ := cells_five hx3
       have hal := al1 x3 (.cells #[.int .i64 dd.k, .int .i64 dd.a, .slice dd.sp dd.sl dd.sc, .string dd.n, .slice dd.kp dd.kl dd.kc] 25)
       have hn4 := heap_alloc_new x3 (.cells #[.int .i64 dd.k, .int .i64 dd.a, .slice dd.sp dd.sl dd.sc, .string dd.n, .slice dd.kp dd.kl dd.kc] 25)
       have hR4 := hR3.later hal
       have hr4 := (hal.block w.heap.size (Array.getElem?_eq_some_iff.1 hr3).1).trans hr3
       have hx4 := (hal.block w1.heap.size (Array.getElem?_eq_some_iff.1 hx3).1).trans hx3
       have hk4 := hk3.nb hk3.size hal
       have hb4s : w1.heap.size < x3.heap.size := (Array.getElem?_eq_some_iff.1 hx3).1
       have HT4 := hide (HT3.out.below hal)
       obtain ⟨x4, hx4_⟩ : ∃ x4, x3.alloc (.cells #[.int .i64 dd.k, .int .i64 dd.a, .slice dd.sp dd.sl dd.sc, .string dd.n, .slice dd.kp dd.kl dd.kc] 25) = x4 := ⟨_, rfl⟩
       rw [hx4_] at hn4 hR4 hr4 hx4 hk4 HT4
       clear hal HT3 hR3 hr3 hk3
       have HT5 := hide (tr_one (kk : Int) hn4 (⟨by omega, by omega⟩ : w.heap.size + 1 ≤ x3.heap.size ∧ x3.heap.size ≠ w1.heap.size) HT4.out HDA.out)
       clear HT4
       have y0 := frozen_row hx4 0
       have y1 := frozen_row hx4 1
       have y2 := frozen_row hx4 2
       have y3 := frozen_row hx4 3
       have y4 := frozen_row hx4 4
       obtain ⟨n0, n1, n2, n3, n4⟩ := cells_five hx4
       have hRp := hR4.putN (x := w1.heap.size) (by omega) (.int .i64 (kk : Int)) (.int .i64 dd.a) (.slice none 0 0) (.string ⟨#[]⟩) (.slice (some ⟨x3.heap.size, 0, none⟩) 1 1)
       have hrp2 := (putN_other (w := x4) (b := w1.heap.size) (k := w.heap.size) (v0 := .int .i64 (kk : Int)) (v1 := .int .i64 dd.a) (v2 := .slice none 0 0) (v3 := .string ⟨#[]⟩) (v4 := .slice (some ⟨x3.heap.size, 0, none⟩) 1 1) (by omega)).trans hr4
       have hxp := putN_box (v0 := .int .i64 (kk : Int)) (v1 := .int .i64 dd.a) (v2 := .slice none 0 0) (v3 := .string ⟨#[]⟩) (v4 := .slice (some ⟨x3.heap.size, 0, none⟩) 1 1) hx4
       have HKP := hide (putN_kp (b := w1.heap.size) (v0 := .int .i64 (kk : Int)) (v1 := .int .i64 dd.a) (v2 := .slice none 0 0) (v3 := .string ⟨#[]⟩) (v4 := .slice (some ⟨x3.heap.size, 0, none⟩) 1 1) hk4 (by omega))
       have HTP := hide (HT5.out.putN (v0 := .int .i64 (kk : Int)) (v1 := .int .i64 dd.a) (v2 := .slice none 0 0) (v3 := .string ⟨#[]⟩) (v4 := .slice (some ⟨x3.heap.size, 0, none⟩) 1 1) (nd_noI hx4) (by rintro ⟨_, hh⟩; exact hh rfl))
       unfold putN at hRp hrp2 hxp HKP HTP
       go_wp2
       exact ⟨⟨j + 1, m, .mk (kk : Int) t.at_ [] [] [t], ⟨kk, dd.a, none, 0, 0, ⟨#[]⟩, some ⟨x3.heap.size, 0, none⟩, 1, 1⟩, HDA, HTP, hxp, hRp, HKP.out, hrp2, by omega, hide (by have := HN.out; have := HM.out; omega), HL2⟩, by rw [hRp.at_, HAT.out]; omega⟩
 · have hr2 := hk.keep hr1 (by omega)
   have hk2 := hk1.nx (by simp) hk
   have HO : Hid (r = .error (c, j)) := hide (by rw [HI.out, hE])
   clear hE hk hr1 hk1 hp HI hfar h1
   unfold ND.v
   have hal := al1 w1 (.cells #[.int .i64 dd.k, .int .i64 dd.a, .slice dd.sp dd.sl dd.sc, .string dd.n, .slice dd.kp dd.kl dd.kc] 25)
   have hx4 := heap_alloc_new w1 (.cells #[.int .i64 dd.k, .int .i64 dd.a, .slice dd.sp dd.sl dd.sc, .string dd.n, .slice dd.kp dd.kl dd.kc] 25)
   have hR2 := hR1.later hal
   have hr3 := (hal.block w.heap.size (Array.getElem?_eq_some_iff.1 hr2).1).trans hr2
   have hk3 := hk2.nb hk2.size hal
   have hcz : ((c : Int) == 0) = false := by simpa using hc
   obtain ⟨w2, hw2⟩ : ∃ w2, w1.alloc (.cells #[.int .i64 dd.k, .int .i64 dd.a, .slice dd.sp dd.sl dd.sc, .string dd.n, .slice dd.kp dd.kl dd.kc] 25) = w2 := ⟨_, rfl⟩
   rw [hw2] at hx4 hR2 hr3 hk3
   have HC := hide hc
   clear hal hR1 hr2 hk2 hc
   obtain ⟨m0, m1, m2, m3, m4⟩ := cells_five hx4
   obtain ⟨q0, q1, q2, q3, q4⟩ := cells_five hr3
   have g0 := frozen_row hr3 0
   have g1 := frozen_row hr3 1
   have g2 := frozen_row hr3 2
   have g3 := frozen_row hr3 3
   have g4 := frozen_row hr3 4
   have HK := hide hk3
   clear hk3
   go_wp2
   go_loopw [6] (fun _ wr => wr = w2) (fun _ _ => 0)
   case atStart => rfl
   case round =>
     obtain rfl := hrel
     go_wp2
     obtain ⟨u0, u1, u2, u3, u4⟩ := cells_five (putN_box (v0 := .int .i64 dd.k) (v1 := .int .i64 dd.a) (v2 := .slice dd.sp dd.sl dd.sc) (v3 := .string dd.n) (v4 := .slice dd.kp dd.kl dd.kc) hr3)
     exact bodyPost_ret (w := putN wr w.heap.size _ _ _ _ _) (v := .tuple #[.agg #[.int .i64 dd.k, .int .i64 dd.a, .slice dd.sp dd.sl dd.sc, .string dd.n, .slice dd.kp dd.kl dd.kc], .int .i64 (c : Int)]) (by simp [results, Tryz.results147, go_sem, u0, u1, u2, u3, u4]) rfl ⟨putN_kp HK.out (Nat.le_refl _), .inr ⟨c, j, dd, o', HO.out, rfl, HC.out, hR2.putN h.lt _ _ _ _ _⟩⟩
end Go.Proofs.YtgngaldoemopjaaGreatDoor
