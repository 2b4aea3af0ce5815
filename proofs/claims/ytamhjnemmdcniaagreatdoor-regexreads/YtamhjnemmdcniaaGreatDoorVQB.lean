/- Joined: Qrc Qrd Qre. -/
import Derived.Test.YtamhjnemmdcniaaGreatDoorVQA
import Derived.Test.YtamhjnemmdcniaaGreatDoorVPrm
import Derived.Test.YtamhjnemmdcniaaGreatDoorVAlt
import Derived.Test.YtamhjnemmdcniaaGreatDoorVRea
/- The reference's reader: prim. -/
namespace Go.Proofs.YtamhjnemmdcniaaGreatDoor
open Go.RowKit
open E (T tk isS rpt beg)
def AnsQ (r : E.Res) (R : Nat) (ao : Option Addr) (cap : Nat) (l : List E.Tok) (o a : Nat) (w : World) (e : Ending) (w' : World) : Prop := Kp w.heap.size R w w' ∧
 ((∃ t j v, r = .ok (t, j) ∧ e = .returned v ∧ TR w' (fun b => w.heap.size ≤ b) t v ∧ Rq w' R ao cap l j o 0 a) ∨
  ∃ (c k j : Nat) (d : ND), r = .error (c, k) ∧ c ≠ 0 ∧ e = .returned d.v ∧ Rq w' R ao cap l j o c k)
def CAltQ (d : Nat) : Prop := ∀ (w : World) (R : Nat) (ao : Option Addr) (cap : Nat) (l : List E.Tok) (i o a : Nat), Rq w R ao cap l i o 0 a → l.length ≤ 40000 → E.Good l → o + d = 20 → Calls Tryz.prog 46 #[.pointer (some ⟨R, 0, none⟩)] w (AnsQ (E.alt d l i) R ao cap l o a w)
theorem Rq.putN {w : World} {R b : Nat} {ao : Option Addr} {cap : Nat} {l : List E.Tok} {i o e a : Nat} (h : Rq w R ao cap l i o e a) (hb : R < b) (v0 v1 v2 v3 v4 : Value) : Rq (putN w b v0 v1 v2 v3 v4) R ao cap l i o e a :=
 h.but (x := b) (fun _ _ hk => putN_other hk) hb
theorem Rq.cells {w : World} {R : Nat} {ao : Option Addr} {cap : Nat} {l : List E.Tok} {i o e a : Nat} (h : Rq w R ao cap l i o e a) : w.cell? ⟨R, 0, none⟩ = some (.slice ao l.length cap) ∧ w.cell? ⟨R, 1, none⟩ = some (.int .i64 (i : Int)) ∧ w.cell? ⟨R, 2, none⟩ = some (.int .i64 (o : Int)) ∧ w.cell? ⟨R, 3, none⟩ = some (.int .i64 (e : Int)) ∧ w.cell? ⟨R, 4, none⟩ = some (.int .i64 (a : Int)) := cells_five h.box
set_option maxRecDepth 100000 in
theorem failQ1 {w : World} {R : Nat} {ao : Option Addr} {cap : Nat} {l : List E.Tok} {i o e a : Nat} (e' a' : Int) (h : Rq w R ao cap l i o e a) (he : e ≠ 0) :
   Calls Tryz.prog 167 #[.pointer (some ⟨R, 0, none⟩), .int .i64 e', .int .i64 a'] w fun r w' => (∃ v, r = .returned v) ∧ w' = w := by
 obtain ⟨c0, c1, c2, c3, c4⟩ := cells_five h.box
 have e1 : ((e : Int) == 0) = false := by simp; omega
 clear h he
 go_enter Tryz.func167, Tryz.ntmps167
 go_wp2
 refine bodyPost_end (results_none rfl _ _ _) rfl ?_
 exact ⟨⟨_, rfl⟩, rfl⟩
theorem isS_ex {t : E.Tok} {c d : List UInt8} (h1 : isS t c = true) (h2 : isS t d = true) : c = d := by
 simp only [E.isS, Bool.and_eq_true, beq_iff_eq] at h1 h2
 exact h1.2.symm.trans h2.2
theorem tr_setQ {W : World} {ok : Nat → Prop} {sp : Option Addr} {S : E.Rs} (a : Int) (sc : Nat) (hr : U.RdR W sp S) : TR W ok (.mk 1 a S [] []) (.agg #[.int .i64 1, .int .i64 a, .slice sp S.length sc, .string ⟨#[]⟩, .slice none 0 0]) := tr_set a sc hr
set_option maxRecDepth 100000 in
set_option maxHeartbeats 1000000 in
theorem primQ (d : Nat) (hA : ∀ d', d = d' + 1 → CAltQ d') {w : World} {R : Nat} {ao : Option Addr} {cap : Nat} {l : List E.Tok} {i o a : Nat} (h : Rq w R ao cap l i o 0 a) (hl : l.length ≤ 40000) (hg : E.Good l) (hd : o + d = 20) :
   Calls Tryz.prog 143 #[.pointer (some ⟨R, 0, none⟩)] w (AnsQ (E.primD d l i) R ao cap l o a w) := by
 have hRl := h.lt
 have h1 := h.later (al1 w roomN)
 have hr1 : (w.alloc roomN).heap[w.heap.size]? = some roomN := heap_alloc_new w _
 have hb1 := al1 w roomN
 have HI : Hid (E.primD d l i = _) := hide (E.primD_eq d l i)
 have hgt := E.tk_good hg i
 have hlt0 : (tk l i).1.kind ≠ 0 → i < l.length := E.tk_lt
 have hltS : ∀ c, isS (tk l i) c = true → i < l.length := fun c h => E.isS_lt h
 have hbe : beg (tk l i) = (decide ((tk l i).1.kind = 1) || (decide ((tk l i).1.kind = 4) || (decide ((tk l i).1.kind = 5) || (isS (tk l i) [46] || (isS (tk l i) [40] || isS (tk l i) [91]))))) := rfl
 have HSQ : Hid (i < l.length → ∀ W, Rq W R ao cap l i o 0 a → Calls Tryz.prog 169 #[.pointer (some ⟨R, 0, none⟩)] W (AnsSt (E.square l i) (tk l i).2 R ao cap l o a W)) := hide (fun hi W hR => setQ hR hl hi)
 have HPR : Hid (∀ W, Rq W R ao cap l i o 0 a → i < l.length → Calls Tryz.prog 168 #[.pointer (some ⟨R, 0, none⟩)] W (AnsPr (U.kn (tk l i).1.text) (U.tl (tk l i).1.text) R ao cap l i o a W)) := hide (fun W hR hi => propQ hR (by omega))
 have H46 : Hid (∀ W, Rq W R ao cap l i o 0 a → Calls Tryz.prog 79 #[.pointer (some ⟨R, 0, none⟩), .string ⟨#[46]⟩] W fun r w' => r = .returned (.bool (isS (tk l i) [46])) ∧ Below W.heap.size W w') := hide (fun W hR => by have := signQ [46] hR; simpa only [decide_true, Bool.true_and] using this)
 have H91 : Hid (∀ W, Rq W R ao cap l i o 0 a → Calls Tryz.prog 79 #[.pointer (some ⟨R, 0, none⟩), .string ⟨#[91]⟩] W fun r w' => r = .returned (.bool (isS (tk l i) [91])) ∧ Below W.heap.size W w') := hide (fun W hR => by have := signQ [91] hR; simpa only [decide_true, Bool.true_and] using this)
 have HBG : Hid (∀ W, Rq W R ao cap l i o 0 a → Calls Tryz.prog 115 #[.pointer (some ⟨R, 0, none⟩)] W fun r w' => r = .returned (.bool (beg (tk l i))) ∧ Below W.heap.size W w') := hide (fun W hR => by have := beginsQ hR; simpa only [decide_true, Bool.true_and] using this)
 generalize E.primD d l i = r at *
 have hn := nowQ h1
 obtain ⟨t, ht⟩ : ∃ t, tk l i = t := ⟨_, rfl⟩
 rw [ht] at hn HI hgt hlt0 hltS hbe HSQ HPR H46 H91 HBG
 unfold tokV at hn
 have HBE := hide hbe
 have HT0 := hide ht
 clear hbe ht
 have hne58 : ∀ k : Nat, w.heap.size ≤ k → ¬ k = R := fun k hk e => by omega
 go_enter Tryz.func143, Tryz.ntmps143
 go_wp2_with fail
 refine hn.mono ?_
 rintro e w1 ⟨rfl, hb2⟩
 have a3 := al1 w1 (.cells #[.int .i64 (t.1.kind : Int), .int .i64 (t.2 : Int), .string ⟨t.1.text.toArray⟩, .int .i32 t.1.r] 58)
 have n3 := heap_alloc_new w1 (.cells #[.int .i64 (t.1.kind : Int), .int .i64 (t.2 : Int), .string ⟨t.1.text.toArray⟩, .int .i32 t.1.r] 58)
 obtain ⟨w2, hw2⟩ : ∃ w2, w1.alloc (.cells #[.int .i64 (t.1.kind : Int), .int .i64 (t.2 : Int), .string ⟨t.1.text.toArray⟩, .int .i32 t.1.r] 58) = w2 := ⟨_, rfl⟩
 rw [hw2] at a3 n3
 have hs1 : w.heap.size + 1 ≤ w1.heap.size := by have := hb2.size; simpa using this
 have hb3 := nx hb2 a3
 have hB := nx hb1 hb3
 have h3 := h.later hB
 have hr3 := (hb3.block w.heap.size (by simp)).trans hr1
 have hbg := HBG.out w2 h3
 clear hn hb1 hb2 a3 hb3 h1 hr1 HBG
 go_wp2_with fail
 refine hbg.mono ?_
 rintro e w3 ⟨rfl, hb4⟩
 have h4 := h3.later hb4
 have hB4 := nx hB hb4
 have hk4 : Kp w.heap.size R w w3 := Kp.of hB4
 have hr4 := (hb4.block w.heap.size (Array.getElem?_eq_some_iff.1 hr3).1).trans hr3
 have n4 := (hb4.block w1.heap.size (Array.getElem?_eq_some_iff.1 n3).1).trans n3
 clear hbg h3 hB hr3 n3 hb4 hB4 hw2
 obtain ⟨p0, p1, p2, p3, p4⟩ := h4.cells
 obtain ⟨b0, b1, b2, b3⟩ := cells_four n4
 have f1 := h4.frz 1
 obtain ⟨q0, q1, q2, q3, q4⟩ := cells_five hr4
 have g0 := frozen_row hr4 0
 have g1 := frozen_row hr4 1
 have g2 := frozen_row hr4 2
 have g3 := frozen_row hr4 3
 have g4 := frozen_row hr4 4
 have hneR : ¬ w.heap.size = R := by omega
 have hneR' : ¬ R = w.heap.size := by omega
 have hneB : ¬ w1.heap.size = R := by omega
 have hneB' : ¬ R = w1.heap.size := by omega
 have hneW : ¬ w1.heap.size = w.heap.size := by omega
 have hneW' : ¬ w.heap.size = w1.heap.size := by omega
 cases hq : beg t with
 | false =>
   have HO : Hid (r = .error (70, i)) := hide (by
     rw [HI.out]
     have hbe := HBE.out
     rw [hq] at hbe
     simp only [Bool.false_eq, Bool.or_eq_false_iff, decide_eq_false_iff_not] at hbe
     obtain ⟨z1, z2, z3, z4, z5, z6⟩ := hbe
     rw [if_neg z1, if_neg z2, if_neg z3, z4, z5, z6]
     rfl)
   clear hq HBE HI HSQ HPR H46 H91 hltS hlt0
   have hfl := failQ 70 i h4
   obtain ⟨h5, hk5⟩ := h4.failed hk4 70 i
   have hr5 : ((w3.setCell ⟨R, 3, none⟩ (.int .i64 ((70 : Nat) : Int))).setCell ⟨R, 4, none⟩ (.int .i64 (i : Int))).heap[w.heap.size]? = some roomN := (Below.heap_setCell _ ⟨R, 4, none⟩ _ w.heap.size hneR).trans ((Below.heap_setCell w3 ⟨R, 3, none⟩ _ w.heap.size hneR).trans hr4)
   go_wp2_with fail
   refine hfl.mono ?_
   rintro e w4 ⟨⟨v, rfl⟩, hw4⟩
   rw [← hw4] at h5 hk5 hr5
   clear hw4 hfl h4 hk4 hr4 p0 p1 p2 p3 p4 f1 q0 q1 q2 q3 q4 g0 g1 g2 g3 g4
   obtain ⟨q0, q1, q2, q3, q4⟩ := cells_five hr5
   have g0 := frozen_row hr5 0
   have g1 := frozen_row hr5 1
   have g2 := frozen_row hr5 2
   have g3 := frozen_row hr5 3
   have g4 := frozen_row hr5 4
   have H5 := hide h5
   have HK := hide hk5
   clear h5 hk5
   go_wp2
   obtain ⟨u0, u1, u2, u3, u4⟩ := cells_five (putN_box (v0 := .int .i64 0) (v1 := .int .i64 0) (v2 := .slice none 0 0) (v3 := .string ⟨#[]⟩) (v4 := .slice none 0 0) hr5)
   exact bodyPost_ret (w := putN w4 w.heap.size _ _ _ _ _) (v := zN) (by unfold zN; simp [results, Tryz.results143, go_sem, u0, u1, u2, u3, u4]) rfl ⟨putN_kp HK.out (Nat.le_refl _), .inr ⟨70, i, i, ⟨0, 0, none, 0, 0, ⟨#[]⟩, none, 0, 0⟩, HO.out, by decide, rfl, H5.out.putN hRl _ _ _ _ _⟩⟩
 | true =>
   by_cases k1 : t.1.kind = 1
   · have e1 : ((t.1.kind : Int) == 1) = true := by simp [k1]
     rw [if_pos k1] at HI
     have hi := hlt0 (by omega)
     clear k1 HBE hq HSQ HPR H46 H91 hltS hlt0
     have h5 := h4.put (i + 1)
     have hk5 := h4.kp hk4 1 (.int .i64 ((i + 1 : Nat) : Int))
     have hr5 := (Below.heap_setCell w3 ⟨R, 1, none⟩ (.int .i64 ((i + 1 : Nat) : Int)) w.heap.size hneR).trans hr4
     have n5 := (Below.heap_setCell w3 ⟨R, 1, none⟩ (.int .i64 ((i + 1 : Nat) : Int)) w1.heap.size hneB).trans n4
     have HE1 : ((i + 1 : Nat) : Int) = (i : Int) + 1 := by omega
     rw [HE1] at h5 hk5 hr5 n5
     obtain ⟨w4, hw4⟩ : ∃ w4, w3.setCell ⟨R, 1, none⟩ (.int .i64 ((i : Int) + 1)) = w4 := ⟨_, rfl⟩
     rw [hw4] at h5 hk5 hr5 n5
     obtain ⟨y0, y1, y2, y3⟩ := cells_four n5
     obtain ⟨m0, m1, m2, m3, m4⟩ := cells_five hr5
     have k0 := frozen_row hr5 0
     have k1' := frozen_row hr5 1
     have k2 := frozen_row hr5 2
     have k3 := frozen_row hr5 3
     have k4' := frozen_row hr5 4
     have H5 := hide h5
     have HK := hide hk5
     have hl4 : w.heap.size + 1 ≤ w4.heap.size := (Array.getElem?_eq_some_iff.1 hr5).1
     clear h5 hk5 HE1
     go_wp2
     obtain ⟨u0, u1, u2, u3, u4⟩ := cells_five (putN_box (v0 := .int .i64 2) (v1 := .int .i64 (t.2 : Int)) (v2 := .slice none 0 0) (v3 := .string ⟨t.1.text.toArray⟩) (v4 := .slice none 0 0) hr5)
     exact bodyPost_ret (w := putN w4 w.heap.size _ _ _ _ _) (v := .agg #[.int .i64 2, .int .i64 (t.2 : Int), .slice none 0 0, .string ⟨t.1.text.toArray⟩, .slice none 0 0]) (by simp [results, Tryz.results143, go_sem, u0, u1, u2, u3, u4]) rfl ⟨putN_kp HK.out (Nat.le_refl _), .inl ⟨_, i + 1, _, HI.out, rfl, tr_var _ _, H5.out.putN hRl _ _ _ _ _⟩⟩
   have e1 : ((t.1.kind : Int) == 1) = false := by simp; omega
   rw [if_neg k1] at HI
   by_cases k4 : t.1.kind = 4
   · have e4 : ((t.1.kind : Int) == 4) = true := by simp [k4]
     rw [if_pos k4] at HI
     have hi := hlt0 (by omega)
     clear k1 k4 HBE hq HSQ HPR H46 H91 hltS hlt0
     have h5 := h4.put (i + 1)
     have hk5 := h4.kp hk4 1 (.int .i64 ((i + 1 : Nat) : Int))
     have hr5 := (Below.heap_setCell w3 ⟨R, 1, none⟩ (.int .i64 ((i + 1 : Nat) : Int)) w.heap.size hneR).trans hr4
     have n5 := (Below.heap_setCell w3 ⟨R, 1, none⟩ (.int .i64 ((i + 1 : Nat) : Int)) w1.heap.size hneB).trans n4
     have HE1 : ((i + 1 : Nat) : Int) = (i : Int) + 1 := by omega
     rw [HE1] at h5 hk5 hr5 n5
     obtain ⟨w4, hw4⟩ : ∃ w4, w3.setCell ⟨R, 1, none⟩ (.int .i64 ((i : Int) + 1)) = w4 := ⟨_, rfl⟩
     rw [hw4] at h5 hk5 hr5 n5
     obtain ⟨y0, y1, y2, y3⟩ := cells_four n5
     obtain ⟨m0, m1, m2, m3, m4⟩ := cells_five hr5
     have k0 := frozen_row hr5 0
     have k1' := frozen_row hr5 1
     have k2 := frozen_row hr5 2
     have k3 := frozen_row hr5 3
     have k4' := frozen_row hr5 4
     have H5 := hide h5
     have HK := hide hk5
     have hl4 : w.heap.size + 1 ≤ w4.heap.size := (Array.getElem?_eq_some_iff.1 hr5).1
     clear h5 hk5 HE1
     have a6 := al1 w4 (.cells #[.int .i32 t.1.r, .int .i32 t.1.r] 51)
     have hr6 := (a6.block w.heap.size (Array.getElem?_eq_some_iff.1 hr5).1).trans hr5
     have hrw := new_rowQ (w := w4) (x := t.1.r) (y := t.1.r)
     have H6 := hide (H5.out.later a6)
     have HK6 := hide (HK.out.nb HK.out.size a6)
     obtain ⟨w6, hw6⟩ : ∃ w6, w4.alloc (.cells #[.int .i32 t.1.r, .int .i32 t.1.r] 51) = w6 := ⟨_, rfl⟩
     rw [hw6] at hr6 hrw H6 HK6
     obtain ⟨s0, s1, s2, s3, s4⟩ := cells_five hr6
     have j0 := frozen_row hr6 0
     have j1 := frozen_row hr6 1
     have j2 := frozen_row hr6 2
     have j3 := frozen_row hr6 3
     have j4 := frozen_row hr6 4
     have HRW := hide hrw
     clear hrw
     go_wp2
     obtain ⟨u0, u1, u2, u3, u4⟩ := cells_five (putN_box (v0 := .int .i64 1) (v1 := .int .i64 (t.2 : Int)) (v2 := .slice (some ⟨w4.heap.size, 0, none⟩) 1 1) (v3 := .string ⟨#[]⟩) (v4 := .slice none 0 0) hr6)
     exact bodyPost_ret (w := putN w6 w.heap.size _ _ _ _ _) (v := .agg #[.int .i64 1, .int .i64 (t.2 : Int), .slice (some ⟨w4.heap.size, 0, none⟩) 1 1, .string ⟨#[]⟩, .slice none 0 0]) (by simp [results, Tryz.results143, go_sem, u0, u1, u2, u3, u4]) rfl ⟨putN_kp HK6.out (Nat.le_refl _), .inl ⟨_, i + 1, _, HI.out, rfl, tr_setQ _ _ (rdr_putN HRW.out (roomN_noI hr6)), H6.out.putN hRl _ _ _ _ _⟩⟩
   have e4 : ((t.1.kind : Int) == 4) = false := by simp; omega
   rw [if_neg k4] at HI
   by_cases k5 : t.1.kind = 5
   · have e5 : ((t.1.kind : Int) == 5) = true := by simp [k5]
     rw [if_pos k5] at HI
     have hi := hlt0 (by omega)
     have hpr := HPR.out w3.drew (h4.later (Below.refl _ w3).drew) hi
     clear k1 k4 k5 HBE hq HSQ HPR H46 H91 hltS hlt0
     go_wp2_with fail
     refine Rst.start 5 (fun w' => w'.cell? ⟨w1.heap.size, 1, none⟩ = some (.int .i64 (t.2 : Int))) (by kernel_rfl) ?_
     refine Rst.take (fun _ _ _ _ _ h => h) 0 _ 57 (.pointer (some ⟨w1.heap.size, 1, none⟩)) rfl (by kernel_rfl) rfl (by kernel_rfl) (by kernel_rfl) b1 (fun wx hb => by kernel_rfl) ?_
     refine Rst.take (fun _ _ _ _ _ h => h) 1 _ 58 (.int .i64 (t.2 : Int)) rfl (by kernel_rfl) rfl (by kernel_rfl) (by kernel_rfl) b1 (fun wx hb => Reg.ld1 rfl (by kernel_rfl) hb (Tryz.isAgg3 _)) ?_
     refine Rst.take (fun _ _ _ _ _ h => h) 2 _ 59 (.pointer (some ⟨R, 0, none⟩)) rfl (by kernel_rfl) rfl (by kernel_rfl) (by kernel_rfl) b1 (fun wx hb => by kernel_rfl) ?_
     refine Rst.call 3 _ 60 168 _ _ #[.pointer (some ⟨R, 0, none⟩)] rfl (by kernel_rfl) rfl (by kernel_rfl) (by kernel_rfl) rfl (by kernel_rfl) (by kernel_rfl) hpr ?_
     rintro e w4 ⟨hk5, hh⟩
     have hz3 : w1.heap.size < w3.heap.size := (Array.getElem?_eq_some_iff.1 n4).1
     have hb1' : w4.cell? ⟨w1.heap.size, 1, none⟩ = some (.int .i64 (t.2 : Int)) := (World.cell?_of_block (w := w3) (a := ⟨w1.heap.size, 1, none⟩) (hk5.block w1.heap.size hz3 hneB)).trans b1
     have hr5 : w4.heap[w.heap.size]? = some roomN := (hk5.block w.heap.size (by show w.heap.size < w3.heap.size; omega) hneR).trans hr4
     have hk6 : Kp w.heap.size R w w4 := hk4.drew.nx hk4.drew.size hk5
     rcases hh with ⟨hkn, sp, sc, rfl, hrs, _, h5⟩ | ⟨hkn, rfl, h5⟩
     · refine ⟨_, rfl, hb1', ?_⟩
       rw [hkn, if_pos rfl] at HI
       refine Rst.only 4 _ 61 rfl (by kernel_rfl) rfl (by kernel_rfl) (by kernel_rfl) ⟨.agg #[.int .i64 1, .int .i64 (t.2 : Int), .slice sp (U.tl t.1.text).length sc, .string ⟨#[]⟩, .slice none 0 0], w4, by kernel_rfl, hb1', ?_⟩
       refine Rst.last _ rfl (by kernel_rfl) rfl (by kernel_rfl) (by kernel_rfl) ⟨_, Reg.stN rfl rfl rfl hr5, ?_⟩
       refine Rst.done (by kernel_rfl) ?_
       simp only [Reg.ov, Act.put, List.setIfInBounds_toArray, List.set_cons_succ, List.set_cons_zero]
       obtain ⟨u0, u1, u2, u3, u4⟩ := cells_five (putN_box (v0 := .int .i64 1) (v1 := .int .i64 (t.2 : Int)) (v2 := .slice sp (U.tl t.1.text).length sc) (v3 := .string ⟨#[]⟩) (v4 := .slice none 0 0) hr5)
       have H5 := hide h5
       have HK := hide hk6
       have HRS := hide hrs
       clear h5 hk6 hrs hk5
       generalize U.tl t.1.text = zs at *
       go_wp2
       exact bodyPost_ret (w := putN w4 w.heap.size _ _ _ _ _) (v := .agg #[.int .i64 1, .int .i64 (t.2 : Int), .slice sp zs.length sc, .string ⟨#[]⟩, .slice none 0 0]) (by simp [results, Tryz.results143, go_sem, u0, u1, u2, u3, u4]) rfl ⟨putN_kp HK.out (Nat.le_refl _), .inl ⟨_, i + 1, _, HI.out, rfl, tr_setQ _ _ (rdr_putN HRS.out (roomN_noI hr5)), H5.out.putN hRl _ _ _ _ _⟩⟩
     · refine ⟨_, rfl, hb1', ?_⟩
       rw [hkn, if_neg (by decide)] at HI
       refine Rst.only 4 _ 61 rfl (by kernel_rfl) rfl (by kernel_rfl) (by kernel_rfl) ⟨.agg #[.int .i64 1, .int .i64 (t.2 : Int), .slice none 0 0, .string ⟨#[]⟩, .slice none 0 0], w4, by kernel_rfl, hb1', ?_⟩
       refine Rst.last _ rfl (by kernel_rfl) rfl (by kernel_rfl) (by kernel_rfl) ⟨_, Reg.stN rfl rfl rfl hr5, ?_⟩
       refine Rst.done (by kernel_rfl) ?_
       simp only [Reg.ov, Act.put, List.setIfInBounds_toArray, List.set_cons_succ, List.set_cons_zero]
       obtain ⟨u0, u1, u2, u3, u4⟩ := cells_five (putN_box (v0 := .int .i64 1) (v1 := .int .i64 (t.2 : Int)) (v2 := .slice none 0 0) (v3 := .string ⟨#[]⟩) (v4 := .slice none 0 0) hr5)
       have H5 := hide h5
       have HK := hide hk6
       clear h5 hk6 hk5
       go_wp2
       exact bodyPost_ret (w := putN w4 w.heap.size _ _ _ _ _) (v := .agg #[.int .i64 1, .int .i64 (t.2 : Int), .slice none 0 0, .string ⟨#[]⟩, .slice none 0 0]) (by simp [results, Tryz.results143, go_sem, u0, u1, u2, u3, u4]) rfl ⟨putN_kp HK.out (Nat.le_refl _), .inr ⟨50, i, i, ⟨1, (t.2 : Int), none, 0, 0, ⟨#[]⟩, none, 0, 0⟩, HI.out, by decide, rfl, H5.out.putN hRl _ _ _ _ _⟩⟩
   have e5 : ((t.1.kind : Int) == 5) = false := by simp; omega
   rw [if_neg k5] at HI
   rw [decide_eq_false k1, decide_eq_false k4, decide_eq_false k5, hq] at HBE
   simp only [Bool.false_or] at HBE
   have h46 := H46.out w3 h4
   go_wp2_with fail
   refine h46.mono ?_
   rintro e x1 ⟨rfl, hx1⟩
   have h6 := h4.later hx1
   have hk6 := hk4.nb hk4.size hx1
   have hr6 := (hx1.block w.heap.size (Array.getElem?_eq_some_iff.1 hr4).1).trans hr4
   have n6 := (hx1.block w1.heap.size (Array.getElem?_eq_some_iff.1 n4).1).trans n4
   obtain ⟨P06, P16, P26, P36, P46⟩ := h6.cells
   have F16 := h6.frz 1
   have F26 := h6.frz 2
   obtain ⟨B06, B16, B26, B36⟩ := cells_four n6
   obtain ⟨Q06, Q16, Q26, Q36, Q46⟩ := cells_five hr6
   have G06 := frozen_row hr6 0
   have G16 := frozen_row hr6 1
   have G26 := frozen_row hr6 2
   have G36 := frozen_row hr6 3
   have G46 := frozen_row hr6 4
   clear h46 H46 p0 p1 p2 p3 p4 b0 b1 b2 b3 f1 q0 q1 q2 q3 q4 g0 g1 g2 g3 g4 h4 hk4 hr4 n4 hx1 k1 k4 k5 hq HPR
   cases hs46 : isS t [46] with
   | true =>
     have hi := hltS _ hs46
     rw [if_pos hs46] at HI
     clear hs46 HBE HSQ H91 hltS hlt0
     have h7 := h6.put (i + 1)
     have hk7 := h6.kp hk6 1 (.int .i64 ((i + 1 : Nat) : Int))
     have hr7 := (Below.heap_setCell x1 ⟨R, 1, none⟩ (.int .i64 ((i + 1 : Nat) : Int)) w.heap.size hneR).trans hr6
     have n7 := (Below.heap_setCell x1 ⟨R, 1, none⟩ (.int .i64 ((i + 1 : Nat) : Int)) w1.heap.size hneB).trans n6
     have HE7 : ((i + 1 : Nat) : Int) = (i : Int) + 1 := by omega
     rw [HE7] at h7 hk7 hr7 n7
     obtain ⟨w4, hw4⟩ : ∃ w4, x1.setCell ⟨R, 1, none⟩ (.int .i64 ((i : Int) + 1)) = w4 := ⟨_, rfl⟩
     rw [hw4] at h7 hk7 hr7 n7
     obtain ⟨y07, y17, y27, y37⟩ := cells_four n7
     obtain ⟨m07, m17, m27, m37, m47⟩ := cells_five hr7
     have z07 := frozen_row hr7 0
     have z17 := frozen_row hr7 1
     have z27 := frozen_row hr7 2
     have z37 := frozen_row hr7 3
     have z47 := frozen_row hr7 4
     have hl7 : w.heap.size + 1 ≤ w4.heap.size := (Array.getElem?_eq_some_iff.1 hr7).1
     have a8 := al1 w4 (.cells #[.int .i32 0, .int .i32 1114111] 51)
     have hr8 := (a8.block w.heap.size (Array.getElem?_eq_some_iff.1 hr7).1).trans hr7
     have hrw := new_rowQ (w := w4) (x := 0) (y := 1114111)
     have H8 := hide (h7.later a8)
     have HK8 := hide (hk7.nb hk7.size a8)
     obtain ⟨w6, hw6⟩ : ∃ w6, w4.alloc (.cells #[.int .i32 0, .int .i32 1114111] 51) = w6 := ⟨_, rfl⟩
     rw [hw6] at hr8 hrw H8 HK8
     obtain ⟨s0, s1, s2, s3, s4⟩ := cells_five hr8
     have j0 := frozen_row hr8 0
     have j1 := frozen_row hr8 1
     have j2 := frozen_row hr8 2
     have j3 := frozen_row hr8 3
     have j4 := frozen_row hr8 4
     have HRW := hide hrw
     clear hrw h7 hk7 hk6 h6 HE7
     go_wp2
     obtain ⟨u0, u1, u2, u3, u4⟩ := cells_five (putN_box (v0 := .int .i64 1) (v1 := .int .i64 (t.2 : Int)) (v2 := .slice (some ⟨w4.heap.size, 0, none⟩) 1 1) (v3 := .string ⟨#[]⟩) (v4 := .slice none 0 0) hr8)
     exact bodyPost_ret (w := putN w6 w.heap.size _ _ _ _ _) (v := .agg #[.int .i64 1, .int .i64 (t.2 : Int), .slice (some ⟨w4.heap.size, 0, none⟩) 1 1, .string ⟨#[]⟩, .slice none 0 0]) (by simp [results, Tryz.results143, go_sem, u0, u1, u2, u3, u4]) rfl ⟨putN_kp HK8.out (Nat.le_refl _), .inl ⟨_, i + 1, _, HI.out, rfl, tr_setQ _ _ (rdr_putN HRW.out (roomN_noI hr8)), H8.out.putN hRl _ _ _ _ _⟩⟩
   | false =>
   rw [if_neg (by rw [hs46]; decide)] at HI
   rw [hs46, Bool.false_or] at HBE
   have h91 := H91.out x1 h6
   clear hs46
   go_wp2_with fail
   refine h91.mono ?_
   rintro e x2 ⟨rfl, hx2⟩
   have h8 := h6.later hx2
   have hk8 := hk6.nb hk6.size hx2
   have hr8 := (hx2.block w.heap.size (Array.getElem?_eq_some_iff.1 hr6).1).trans hr6
   have n8 := (hx2.block w1.heap.size (Array.getElem?_eq_some_iff.1 n6).1).trans n6
   obtain ⟨P08, P18, P28, P38, P48⟩ := h8.cells
   have F18 := h8.frz 1
   have F28 := h8.frz 2
   obtain ⟨B08, B18, B28, B38⟩ := cells_four n8
   obtain ⟨Q08, Q18, Q28, Q38, Q48⟩ := cells_five hr8
   have G08 := frozen_row hr8 0
   have G18 := frozen_row hr8 1
   have G28 := frozen_row hr8 2
   have G38 := frozen_row hr8 3
   have G48 := frozen_row hr8 4
   clear P06 P16 P26 P36 P46 F16 F26 B06 B16 B26 B36 Q06 Q16 Q26 Q36 Q46 G06 G16 G26 G36 G46
   clear h91 H91 h6 hk6 hr6 n6 hx2
   cases hs91 : isS t [91] with
   | true =>
     have hi := hltS _ hs91
     have h40 : isS t [40] = false := by
       cases h40 : isS t [40] with
       | false => rfl
       | true => exact absurd (isS_ex h40 hs91) (by decide)
     rw [if_neg (by rw [h40]; decide), if_pos hs91] at HI
     have hsq := HSQ.out hi x2.drew (h8.later (Below.refl _ x2).drew)
     clear h40 hs91 HBE HSQ hltS hlt0
     generalize E.square l i = rs at *
     have hb1 : x2.cell? ⟨w1.heap.size, 1, none⟩ = some (.int .i64 (t.2 : Int)) := B18
     go_wp2_with fail
     refine Rst.start 5 (fun w' => w'.cell? ⟨w1.heap.size, 1, none⟩ = some (.int .i64 (t.2 : Int))) (by kernel_rfl) ?_
     refine Rst.take (fun _ _ _ _ _ h => h) 0 _ 80 (.pointer (some ⟨w1.heap.size, 1, none⟩)) rfl (by kernel_rfl) rfl (by kernel_rfl) (by kernel_rfl) hb1 (fun wx hb => by kernel_rfl) ?_
     refine Rst.take (fun _ _ _ _ _ h => h) 1 _ 81 (.int .i64 (t.2 : Int)) rfl (by kernel_rfl) rfl (by kernel_rfl) (by kernel_rfl) hb1 (fun wx hb => Reg.ld1 rfl (by kernel_rfl) hb (Tryz.isAgg3 _)) ?_
     refine Rst.take (fun _ _ _ _ _ h => h) 2 _ 82 (.pointer (some ⟨R, 0, none⟩)) rfl (by kernel_rfl) rfl (by kernel_rfl) (by kernel_rfl) hb1 (fun wx hb => by kernel_rfl) ?_
     refine Rst.call 3 _ 83 169 _ _ #[.pointer (some ⟨R, 0, none⟩)] rfl (by kernel_rfl) rfl (by kernel_rfl) (by kernel_rfl) rfl (by kernel_rfl) (by kernel_rfl) hsq ?_
     rintro e w4 ⟨hk5, hh⟩
     have hz3 : w1.heap.size < x2.heap.size := (Array.getElem?_eq_some_iff.1 n8).1
     have hb1' : w4.cell? ⟨w1.heap.size, 1, none⟩ = some (.int .i64 (t.2 : Int)) := (World.cell?_of_block (w := x2) (a := ⟨w1.heap.size, 1, none⟩) (hk5.block w1.heap.size hz3 hneB)).trans hb1
     have hr5 : w4.heap[w.heap.size]? = some roomN := (hk5.block w.heap.size (by show w.heap.size < x2.heap.size; omega) hneR).trans hr8
     have hk6 : Kp w.heap.size R w w4 := hk8.drew.nx hk8.drew.size hk5
     clear P08 P18 P28 P38 P48 F18 F28 B08 B18 B28 B38 Q08 Q18 Q28 Q38 Q48 G08 G18 G28 G38 G48
     rcases hh with ⟨zs, j, sp, sc, hrs0, rfl, hrs, h5⟩ | ⟨c, k, j, sp, sl, sc, hrs0, hc, rfl, h5⟩
     · refine ⟨_, rfl, hb1', ?_⟩
       have HO : Hid (r = .ok (.mk 1 (t.2 : Int) zs [] [], j)) := hide (by rw [HI.out, hrs0])
       refine Rst.only 4 _ 84 rfl (by kernel_rfl) rfl (by kernel_rfl) (by kernel_rfl) ⟨.agg #[.int .i64 1, .int .i64 (t.2 : Int), .slice sp zs.length sc, .string ⟨#[]⟩, .slice none 0 0], w4, by kernel_rfl, hb1', ?_⟩
       refine Rst.last _ rfl (by kernel_rfl) rfl (by kernel_rfl) (by kernel_rfl) ⟨_, Reg.stN rfl rfl rfl hr5, ?_⟩
       refine Rst.done (by kernel_rfl) ?_
       simp only [Reg.ov, Act.put, List.setIfInBounds_toArray, List.set_cons_succ, List.set_cons_zero]
       obtain ⟨u0, u1, u2, u3, u4⟩ := cells_five (putN_box (v0 := .int .i64 1) (v1 := .int .i64 (t.2 : Int)) (v2 := .slice sp zs.length sc) (v3 := .string ⟨#[]⟩) (v4 := .slice none 0 0) hr5)
       have H5 := hide h5
       have HK := hide hk6
       have HRS := hide hrs
       clear h5 hk6 hrs hk5 hrs0
       go_wp2
       exact bodyPost_ret (w := putN w4 w.heap.size _ _ _ _ _) (v := .agg #[.int .i64 1, .int .i64 (t.2 : Int), .slice sp zs.length sc, .string ⟨#[]⟩, .slice none 0 0]) (by simp [results, Tryz.results143, go_sem, u0, u1, u2, u3, u4]) rfl ⟨putN_kp HK.out (Nat.le_refl _), .inl ⟨_, j, _, HO.out, rfl, tr_setQ _ _ (rdr_putN HRS.out (roomN_noI hr5)), H5.out.putN hRl _ _ _ _ _⟩⟩
     · refine ⟨_, rfl, hb1', ?_⟩
       have HO : Hid (r = .error (c, k)) := hide (by rw [HI.out, hrs0])
       refine Rst.only 4 _ 84 rfl (by kernel_rfl) rfl (by kernel_rfl) (by kernel_rfl) ⟨.agg #[.int .i64 1, .int .i64 (t.2 : Int), .slice sp sl sc, .string ⟨#[]⟩, .slice none 0 0], w4, by kernel_rfl, hb1', ?_⟩
       refine Rst.last _ rfl (by kernel_rfl) rfl (by kernel_rfl) (by kernel_rfl) ⟨_, Reg.stN rfl rfl rfl hr5, ?_⟩
       refine Rst.done (by kernel_rfl) ?_
       simp only [Reg.ov, Act.put, List.setIfInBounds_toArray, List.set_cons_succ, List.set_cons_zero]
       obtain ⟨u0, u1, u2, u3, u4⟩ := cells_five (putN_box (v0 := .int .i64 1) (v1 := .int .i64 (t.2 : Int)) (v2 := .slice sp sl sc) (v3 := .string ⟨#[]⟩) (v4 := .slice none 0 0) hr5)
       have H5 := hide h5
       have HK := hide hk6
       have HC := hide hc
       clear h5 hk6 hk5 hrs0 hc
       go_wp2
       exact bodyPost_ret (w := putN w4 w.heap.size _ _ _ _ _) (v := .agg #[.int .i64 1, .int .i64 (t.2 : Int), .slice sp sl sc, .string ⟨#[]⟩, .slice none 0 0]) (by simp [results, Tryz.results143, go_sem, u0, u1, u2, u3, u4]) rfl ⟨putN_kp HK.out (Nat.le_refl _), .inr ⟨c, k, j, ⟨1, (t.2 : Int), sp, sl, sc, ⟨#[]⟩, none, 0, 0⟩, HO.out, HC.out, rfl, H5.out.putN hRl _ _ _ _ _⟩⟩
   | false =>
   have h40 : isS t [40] = true := by
     have := HBE.out
     rw [hs91, Bool.or_false] at this
     exact this.symm
   have hi := hltS _ h40
   rw [if_pos h40] at HI
   clear HBE hs91 h40 HSQ hltS hlt0
   cases d with
   | zero =>
     rw [roundD_zero] at HI
     have HO : Hid (r = .error (71, i)) := HI
     have e20 : ((o : Int) == 20) = true := by simp; omega
     clear HI hA
     have hfl := failQ 71 i h8
     obtain ⟨hF, hkF⟩ := h8.failed hk8 71 i
     have hrF : ((x2.setCell ⟨R, 3, none⟩ (.int .i64 ((71 : Nat) : Int))).setCell ⟨R, 4, none⟩ (.int .i64 ((i : Nat) : Int))).heap[w.heap.size]? = some roomN := (Below.heap_setCell _ ⟨R, 4, none⟩ _ w.heap.size hneR).trans ((Below.heap_setCell x2 ⟨R, 3, none⟩ _ w.heap.size hneR).trans hr8)
     go_wp2_with fail
     refine hfl.mono ?_
     rintro e wf ⟨⟨v, rfl⟩, hwf⟩
     rw [← hwf] at hF hkF hrF
     clear hwf hfl
     clear P08 P18 P28 P38 P48 F18 F28 B08 B18 B28 B38 Q08 Q18 Q28 Q38 Q48 G08 G18 G28 G38 G48
     clear h8 hk8 hr8 n8
     obtain ⟨fq0, fq1, fq2, fq3, fq4⟩ := cells_five hrF
     have fg0 := frozen_row hrF 0
     have fg1 := frozen_row hrF 1
     have fg2 := frozen_row hrF 2
     have fg3 := frozen_row hrF 3
     have fg4 := frozen_row hrF 4
     have HF := hide hF
     have HKF := hide hkF
     clear hF hkF
     go_wp2
     obtain ⟨u0, u1, u2, u3, u4⟩ := cells_five (putN_box (v0 := .int .i64 0) (v1 := .int .i64 0) (v2 := .slice none 0 0) (v3 := .string ⟨#[]⟩) (v4 := .slice none 0 0) hrF)
     exact bodyPost_ret (w := putN wf w.heap.size _ _ _ _ _) (v := zN) (by unfold zN; simp [results, Tryz.results143, go_sem, u0, u1, u2, u3, u4]) rfl ⟨putN_kp HKF.out (Nat.le_refl _), .inr ⟨71, i, i, ⟨0, 0, none, 0, 0, ⟨#[]⟩, none, 0, 0⟩, HO.out, by decide, rfl, HF.out.putN hRl _ _ _ _ _⟩⟩
   | succ d' =>
     rw [roundD_succ, HT0.out] at HI
     have e20 : ((o : Int) == 20) = false := by simp; omega
     have hal := hA d' rfl
     clear hA
     have h9 := h8.put (i + 1)
     have hk9 := h8.kp hk8 1 (.int .i64 ((i + 1 : Nat) : Int))
     have hr9 := (Below.heap_setCell x2 ⟨R, 1, none⟩ (.int .i64 ((i + 1 : Nat) : Int)) w.heap.size hneR).trans hr8
     have n9 := (Below.heap_setCell x2 ⟨R, 1, none⟩ (.int .i64 ((i + 1 : Nat) : Int)) w1.heap.size hneB).trans n8
     have HE9 : ((i + 1 : Nat) : Int) = (i : Int) + 1 := by omega
     rw [HE9] at h9 hk9 hr9 n9
     obtain ⟨x3, hx3⟩ : ∃ x3, x2.setCell ⟨R, 1, none⟩ (.int .i64 ((i : Int) + 1)) = x3 := ⟨_, rfl⟩
     rw [hx3] at h9 hk9 hr9 n9
     obtain ⟨y09, y19, y29, y39⟩ := cells_four n9
     obtain ⟨m09, m19, m29, m39, m49⟩ := cells_five hr9
     have z09 := frozen_row hr9 0
     have z19 := frozen_row hr9 1
     have z29 := frozen_row hr9 2
     have z39 := frozen_row hr9 3
     have z49 := frozen_row hr9 4
     have hl9 : w.heap.size + 1 ≤ x3.heap.size := (Array.getElem?_eq_some_iff.1 hr9).1
     have h41 : Hid (∀ W, Rq W R ao cap l (i + 1) o 0 a → Calls Tryz.prog 79 #[.pointer (some ⟨R, 0, none⟩), .string ⟨#[41]⟩] W fun r w' => r = .returned (.bool (isS (tk l (i + 1)) [41])) ∧ Below W.heap.size W w') := hide (fun W hR => by have := signQ [41] hR; simpa only [decide_true, Bool.true_and] using this)
     have hs3 := h41.out x3 h9
     have hi1 : isS (tk l (i + 1)) [41] = true → i + 1 < l.length := E.isS_lt
     clear h41
     go_wp2_with fail
     refine hs3.mono ?_
     rintro e x4 ⟨rfl, hx4⟩
     have hA := h9.later hx4
     have hkA := hk9.nb hk9.size hx4
     have hrA := (hx4.block w.heap.size (Array.getElem?_eq_some_iff.1 hr9).1).trans hr9
     have nA := (hx4.block w1.heap.size (Array.getElem?_eq_some_iff.1 n9).1).trans n9
     obtain ⟨P0A, P1A, P2A, P3A, P4A⟩ := hA.cells
     have F1A := hA.frz 1
     have F2A := hA.frz 2
     obtain ⟨B0A, B1A, B2A, B3A⟩ := cells_four nA
     obtain ⟨Q0A, Q1A, Q2A, Q3A, Q4A⟩ := cells_five hrA
     have G0A := frozen_row hrA 0
     have G1A := frozen_row hrA 1
     have G2A := frozen_row hrA 2
     have G3A := frozen_row hrA 3
     have G4A := frozen_row hrA 4
     clear P08 P18 P28 P38 P48 F18 F28 B08 B18 B28 B38 Q08 Q18 Q28 Q38 Q48 G08 G18 G28 G38 G48
     clear y09 y19 y29 y39 m09 m19 m29 m39 m49 z09 z19 z29 z39 z49
     clear hs3 h8 hk8 hr8 n8 h9 hk9 hr9 n9 hx4 hx3
     rw [HE9] at P1A
     cases hq41 : isS (tk l (i + 1)) [41] with
     | true =>
       have hi2 := hi1 hq41
       rw [if_pos hq41] at HI
       clear hq41 hi1 hal
       have hC := hA.put (i + 2)
       have hkC := hA.kp hkA 1 (.int .i64 ((i + 2 : Nat) : Int))
       have hrC := (Below.heap_setCell x4 ⟨R, 1, none⟩ (.int .i64 ((i + 2 : Nat) : Int)) w.heap.size hneR).trans hrA
       have nC := (Below.heap_setCell x4 ⟨R, 1, none⟩ (.int .i64 ((i + 2 : Nat) : Int)) w1.heap.size hneB).trans nA
       have HEC : ((i + 2 : Nat) : Int) = (i : Int) + 1 + 1 := by omega
       rw [HEC] at hC hkC hrC nC
       obtain ⟨x5, hx5⟩ : ∃ x5, x4.setCell ⟨R, 1, none⟩ (.int .i64 ((i : Int) + 1 + 1)) = x5 := ⟨_, rfl⟩
       rw [hx5] at hC hkC hrC nC
       obtain ⟨y0C, y1C, y2C, y3C⟩ := cells_four nC
       obtain ⟨m0C, m1C, m2C, m3C, m4C⟩ := cells_five hrC
       have z0C := frozen_row hrC 0
       have z1C := frozen_row hrC 1
       have z2C := frozen_row hrC 2
       have z3C := frozen_row hrC 3
       have z4C := frozen_row hrC 4
       have hlC : w.heap.size + 1 ≤ x5.heap.size := (Array.getElem?_eq_some_iff.1 hrC).1
       have HC := hide hC
       have HKC := hide hkC
       clear hC hkC hA hkA HE9 HEC
       go_wp2
       obtain ⟨u0, u1, u2, u3, u4⟩ := cells_five (putN_box (v0 := .int .i64 3) (v1 := .int .i64 (t.2 : Int)) (v2 := .slice none 0 0) (v3 := .string ⟨#[]⟩) (v4 := .slice none 0 0) hrC)
       exact bodyPost_ret (w := putN x5 w.heap.size _ _ _ _ _) (v := .agg #[.int .i64 3, .int .i64 (t.2 : Int), .slice none 0 0, .string ⟨#[]⟩, .slice none 0 0]) (by simp [results, Tryz.results143, go_sem, u0, u1, u2, u3, u4]) rfl ⟨putN_kp HKC.out (Nat.le_refl _), .inl ⟨_, i + 2, _, HI.out, rfl, tr_none _, HC.out.putN hRl _ _ _ _ _⟩⟩
     | false =>
       rw [if_neg (by rw [hq41]; decide)] at HI
       clear hq41 hi1
       have hD := hA.putO (o + 1)
       have hkD := hA.kp hkA 2 (.int .i64 ((o + 1 : Nat) : Int))
       have hrD := (Below.heap_setCell x4 ⟨R, 2, none⟩ (.int .i64 ((o + 1 : Nat) : Int)) w.heap.size hneR).trans hrA
       have nD := (Below.heap_setCell x4 ⟨R, 2, none⟩ (.int .i64 ((o + 1 : Nat) : Int)) w1.heap.size hneB).trans nA
       have HED : ((o + 1 : Nat) : Int) = (o : Int) + 1 := by omega
       rw [HED] at hD hkD hrD nD
       obtain ⟨x5, hx5⟩ : ∃ x5, x4.setCell ⟨R, 2, none⟩ (.int .i64 ((o : Int) + 1)) = x5 := ⟨_, rfl⟩
       rw [hx5] at hD hkD hrD nD
       have hcall := hal x5 R ao cap l (i + 1) (o + 1) a hD hl hg (by omega)
       generalize E.alt d' l (i + 1) = ra at *
       go_wp2_with fail
       refine hcall.mono ?_
       clear P0A P1A P2A P3A P4A F1A F2A B0A B1A B2A B3A Q0A Q1A Q2A Q3A Q4A G0A G1A G2A G3A G4A
       clear hcall hal hA hkA hrA nA
       have hxz : w.heap.size + 1 ≤ x5.heap.size := (Array.getElem?_eq_some_iff.1 hrD).1
       rintro e x6 ⟨hk6, hh⟩
       have hkE := hkD.nx hkD.size hk6
       have hrE := (hk6.block w.heap.size (by omega) hneR).trans hrD
       clear hkD hrD nD hD hx5 HE9
       rcases hh with ⟨t', j, v, hra, rfl, htr, hE⟩ | ⟨c, k, j, dd, hra, hc, rfl, hE⟩
       · obtain ⟨dv, rfl, -, -⟩ := htr.nd
         rw [hra] at HI
         unfold ND.v
         have a7 := al1 x6 (.cells #[.int .i64 dv.k, .int .i64 dv.a, .slice dv.sp dv.sl dv.sc, .string dv.n, .slice dv.kp dv.kl dv.kc] 26)
         have n7 := heap_alloc_new x6 (.cells #[.int .i64 dv.k, .int .i64 dv.a, .slice dv.sp dv.sl dv.sc, .string dv.n, .slice dv.kp dv.kl dv.kc] 26)
         have h7 := hE.later a7
         have hk7 := hkE.nb hkE.size a7
         have hr7 := (a7.block w.heap.size (Array.getElem?_eq_some_iff.1 hrE).1).trans hrE
         have ht7 := htr.below a7
         obtain ⟨x7, hx7⟩ : ∃ x7, x6.alloc (.cells #[.int .i64 dv.k, .int .i64 dv.a, .slice dv.sp dv.sl dv.sc, .string dv.n, .slice dv.kp dv.kl dv.kc] 26) = x7 := ⟨_, rfl⟩
         rw [hx7] at n7 h7 hk7 hr7 ht7
         have hx6 : w.heap.size + 1 ≤ x6.heap.size := (Array.getElem?_eq_some_iff.1 hrE).1
         have hne6 : ¬ x6.heap.size = R := by omega
         have hne6w : ¬ x6.heap.size = w.heap.size := by omega
         obtain ⟨c0, c1, c2, c3, c4⟩ := h7.cells
         rw [HED] at c2
         have f2 := h7.frz 2
         have h8 := h7.putO o
         have hk8 := h7.kp hk7 2 (.int .i64 (o : Int))
         have hr8 := (Below.heap_setCell x7 ⟨R, 2, none⟩ (.int .i64 (o : Int)) w.heap.size hneR).trans hr7
         have n8 := (Below.heap_setCell x7 ⟨R, 2, none⟩ (.int .i64 (o : Int)) x6.heap.size hne6).trans n7
         have ht8 := ht7.put (j := 2) (u := .int .i64 (o : Int)) h7.noI (by show ¬ x5.heap.size ≤ R; omega)
         have hsub : (o : Int) + 1 - 1 = (o : Int) := by omega
         obtain ⟨x8, hx8⟩ : ∃ x8, x7.setCell ⟨R, 2, none⟩ (.int .i64 (o : Int)) = x8 := ⟨_, rfl⟩
         rw [hx8] at h8 hk8 hr8 n8 ht8
         have hs8 := signQ [41] h8
         simp only [decide_true, Bool.true_and] at hs8
         have hjlt : isS (tk l j) [41] = true → j < l.length := E.isS_lt
         go_wp2_with fail
         refine hs8.mono ?_
         rintro e x9 ⟨rfl, hx9⟩
         have h9 := h8.later hx9
         have hk9 := hk8.nb hk8.size hx9
         have hr9 := (hx9.block w.heap.size (Array.getElem?_eq_some_iff.1 hr8).1).trans hr8
         have n9 := (hx9.block x6.heap.size (Array.getElem?_eq_some_iff.1 n8).1).trans n8
         have ht9 := ht8.below hx9
         clear hs8 h8 hk8 hr8 n8 ht8 hx9 h7 hk7 hr7 n7 ht7 c0 c1 c2 c3 c4 f2 hx7 hx8 hE hkE hrE htr a7
         obtain ⟨c0, c1, c2, c3, c4⟩ := h9.cells
         have f1 := h9.frz 1
         cases hqj : isS (tk l j) [41] with
         | true =>
           have hj2 := hjlt hqj
           have HO : Hid (r = .ok (t', j + 1)) := hide (by rw [HI.out]; exact if_pos hqj)
           clear HI hqj hjlt
           have hT := h9.put (j + 1)
           have hkT := h9.kp hk9 1 (.int .i64 ((j + 1 : Nat) : Int))
           have hrT := (Below.heap_setCell x9 ⟨R, 1, none⟩ (.int .i64 ((j + 1 : Nat) : Int)) w.heap.size hneR).trans hr9
           have nT := (Below.heap_setCell x9 ⟨R, 1, none⟩ (.int .i64 ((j + 1 : Nat) : Int)) x6.heap.size hne6).trans n9
           have htT := ht9.put (j := 1) (u := .int .i64 ((j + 1 : Nat) : Int)) h9.noI (by show ¬ x5.heap.size ≤ R; omega)
           have HET : ((j + 1 : Nat) : Int) = (j : Int) + 1 := by omega
           rw [HET] at hT hkT hrT nT htT
           obtain ⟨xt, hxt⟩ : ∃ xt, x9.setCell ⟨R, 1, none⟩ (.int .i64 ((j : Int) + 1)) = xt := ⟨_, rfl⟩
           rw [hxt] at hT hkT hrT nT htT
           obtain ⟨d0, d1, d2, d3, d4⟩ := cells_five nT
           obtain ⟨fq0, fq1, fq2, fq3, fq4⟩ := cells_five hrT
           have fg0 := frozen_row hrT 0
           have fg1 := frozen_row hrT 1
           have fg2 := frozen_row hrT 2
           have fg3 := frozen_row hrT 3
           have fg4 := frozen_row hrT 4
           have HT := hide hT
           have HKT := hide hkT
           have HTT := hide htT
           clear hT hkT htT h9 hk9 ht9 HET
           go_wp2
           obtain ⟨u0, u1, u2, u3, u4⟩ := cells_five (putN_box (v0 := .int .i64 dv.k) (v1 := .int .i64 dv.a) (v2 := .slice dv.sp dv.sl dv.sc) (v3 := .string dv.n) (v4 := .slice dv.kp dv.kl dv.kc) hrT)
           exact bodyPost_ret (w := putN xt w.heap.size _ _ _ _ _) (v := dv.v) (by unfold ND.v; simp [results, Tryz.results143, go_sem, u0, u1, u2, u3, u4]) rfl ⟨putN_kp HKT.out (Nat.le_refl _), .inl ⟨t', j + 1, _, HO.out, rfl, TR.mono (fun b _ hb => by show w.heap.size ≤ b; have hb : x5.heap.size ≤ b := hb; omega) _ (HTT.out.putN (roomN_noI hrT) (by show ¬ x5.heap.size ≤ w.heap.size; omega)), HT.out.putN hRl _ _ _ _ _⟩⟩
         | false =>
           have HO : Hid (r = .error (70, j)) := hide (by rw [HI.out]; exact if_neg (by rw [hqj]; decide))
           clear HI hqj hjlt
           have hfl := failQ 70 j h9
           obtain ⟨hF, hkF⟩ := h9.failed hk9 70 j
           have hrF : ((x9.setCell ⟨R, 3, none⟩ (.int .i64 ((70 : Nat) : Int))).setCell ⟨R, 4, none⟩ (.int .i64 ((j : Nat) : Int))).heap[w.heap.size]? = some roomN := (Below.heap_setCell _ ⟨R, 4, none⟩ _ w.heap.size hneR).trans ((Below.heap_setCell x9 ⟨R, 3, none⟩ _ w.heap.size hneR).trans hr9)
           go_wp2_with fail
           refine hfl.mono ?_
           rintro e wf ⟨⟨v, rfl⟩, hwf⟩
           rw [← hwf] at hF hkF hrF
           clear hwf hfl h9 hk9 hr9 n9 ht9 c0 c1 c2 c3 c4 f1
           obtain ⟨fq0, fq1, fq2, fq3, fq4⟩ := cells_five hrF
           have fg0 := frozen_row hrF 0
           have fg1 := frozen_row hrF 1
           have fg2 := frozen_row hrF 2
           have fg3 := frozen_row hrF 3
           have fg4 := frozen_row hrF 4
           have HF := hide hF
           have HKF := hide hkF
           clear hF hkF
           go_wp2
           obtain ⟨u0, u1, u2, u3, u4⟩ := cells_five (putN_box (v0 := .int .i64 0) (v1 := .int .i64 0) (v2 := .slice none 0 0) (v3 := .string ⟨#[]⟩) (v4 := .slice none 0 0) hrF)
           exact bodyPost_ret (w := putN wf w.heap.size _ _ _ _ _) (v := zN) (by unfold zN; simp [results, Tryz.results143, go_sem, u0, u1, u2, u3, u4]) rfl ⟨putN_kp HKF.out (Nat.le_refl _), .inr ⟨70, j, j, ⟨0, 0, none, 0, 0, ⟨#[]⟩, none, 0, 0⟩, HO.out, by decide, rfl, HF.out.putN hRl _ _ _ _ _⟩⟩
       · rw [hra] at HI
         have HO : Hid (r = .error (c, k)) := HI
         clear HI hra
         unfold ND.v
         have a7 := al1 x6 (.cells #[.int .i64 dd.k, .int .i64 dd.a, .slice dd.sp dd.sl dd.sc, .string dd.n, .slice dd.kp dd.kl dd.kc] 26)
         have h7 := hE.later a7
         have hk7 := hkE.nb hkE.size a7
         have hr7 := (a7.block w.heap.size (Array.getElem?_eq_some_iff.1 hrE).1).trans hrE
         obtain ⟨x7, hx7⟩ : ∃ x7, x6.alloc (.cells #[.int .i64 dd.k, .int .i64 dd.a, .slice dd.sp dd.sl dd.sc, .string dd.n, .slice dd.kp dd.kl dd.kc] 26) = x7 := ⟨_, rfl⟩
         rw [hx7] at h7 hk7 hr7
         obtain ⟨c0, c1, c2, c3, c4⟩ := h7.cells
         rw [HED] at c2
         have f2 := h7.frz 2
         have h8 := h7.putO o
         have hk8 := h7.kp hk7 2 (.int .i64 (o : Int))
         have hr8 := (Below.heap_setCell x7 ⟨R, 2, none⟩ (.int .i64 (o : Int)) w.heap.size hneR).trans hr7
         have hsub : (o : Int) + 1 - 1 = (o : Int) := by omega
         obtain ⟨x8, hx8⟩ : ∃ x8, x7.setCell ⟨R, 2, none⟩ (.int .i64 (o : Int)) = x8 := ⟨_, rfl⟩
         rw [hx8] at h8 hk8 hr8
         have hs8 := signQ [41] h8
         rw [decide_eq_false hc, Bool.false_and] at hs8
         have HC := hide hc
         go_wp2_with fail
         refine hs8.mono ?_
         rintro e x9 ⟨rfl, hx9⟩
         have h9 := h8.later hx9
         have hk9 := hk8.nb hk8.size hx9
         have hr9 := (hx9.block w.heap.size (Array.getElem?_eq_some_iff.1 hr8).1).trans hr8
         clear hs8 h8 hk8 hr8 hx9 h7 hk7 hr7 c0 c1 c2 c3 c4 f2 hx7 hx8 hE hkE hrE a7 hc
         obtain ⟨c0, c1, c2, c3, c4⟩ := h9.cells
         have hfl := failQ1 70 (j : Int) h9 HC.out
         go_wp2_with fail
         refine hfl.mono ?_
         rintro e wf ⟨⟨v, rfl⟩, hwf⟩
         subst hwf
         clear hfl c0 c1 c2 c3 c4
         obtain ⟨fq0, fq1, fq2, fq3, fq4⟩ := cells_five hr9
         have fg0 := frozen_row hr9 0
         have fg1 := frozen_row hr9 1
         have fg2 := frozen_row hr9 2
         have fg3 := frozen_row hr9 3
         have fg4 := frozen_row hr9 4
         have HF := hide h9
         have HKF := hide hk9
         clear h9 hk9
         go_wp2
         obtain ⟨u0, u1, u2, u3, u4⟩ := cells_five (putN_box (v0 := .int .i64 0) (v1 := .int .i64 0) (v2 := .slice none 0 0) (v3 := .string ⟨#[]⟩) (v4 := .slice none 0 0) hr9)
         exact bodyPost_ret (w := putN wf w.heap.size _ _ _ _ _) (v := zN) (by unfold zN; simp [results, Tryz.results143, go_sem, u0, u1, u2, u3, u4]) rfl ⟨putN_kp HKF.out (Nat.le_refl _), .inr ⟨c, k, j, ⟨0, 0, none, 0, 0, ⟨#[]⟩, none, 0, 0⟩, HO.out, HC.out, rfl, HF.out.putN hRl _ _ _ _ _⟩⟩
end Go.Proofs.YtamhjnemmdcniaaGreatDoor
/- The reference's reader: rep, cat, alt. -/
namespace Go.Proofs.YtamhjnemmdcniaaGreatDoor
open Go.RowKit
open E (T tk isS rpt beg)
set_option maxRecDepth 100000 in
set_option maxHeartbeats 1000000 in
theorem repQ (d : Nat) (hA : ∀ d', d = d' + 1 → CAltQ d') {w : World} {R : Nat} {ao : Option Addr} {cap : Nat} {l : List E.Tok} {i o a : Nat} (h : Rq w R ao cap l i o 0 a) (hl : l.length ≤ 40000) (hg : E.Good l) (hd : o + d = 20) :
   Calls Tryz.prog 114 #[.pointer (some ⟨R, 0, none⟩)] w (AnsQ (E.repD d l i) R ao cap l o a w) := by
 have hRl := h.lt
 have h1 := h.later (al1 w roomN)
 have hr1 : (w.alloc roomN).heap[w.heap.size]? = some roomN := heap_alloc_new w _
 have hk1 : Kp w.heap.size R w (w.alloc roomN) := Kp.of (al1 w _)
 have HI : Hid (E.repD d l i = match E.primD d l i with | .error e => .error e | .ok (t, j) => .ok (E.repL l.length l j t)) := hide (rfl)
 have hfar := E.primD_far l d i
 have hp := primQ d hA h1 hl hg hd
 generalize E.repD d l i = r at *
 clear hA
 go_enter Tryz.func114, Tryz.ntmps114
 go_wp2_with fail
 refine hp.mono ?_
 rintro e w1 ⟨hk, ⟨t0, j0, v, hE, rfl, htr, hR1⟩ | ⟨c, k, j, dd, hE, hc, rfl, hR1⟩⟩
 · have hr2 := hk.keep hr1 (by omega)
   have hk2 := hk1.nx (by simp) hk
   have hs1 : w.heap.size + 1 ≤ w1.heap.size := (Array.getElem?_eq_some_iff.1 hr2).1
   have hj0 := (hfar t0 j0 hE).2
   have HI2 : Hid (r = .ok (E.repL l.length l j0 t0)) := hide (by rw [HI.out, hE])
   have htr := TR.mono (ok' := fun b => w.heap.size + 1 ≤ b ∧ b ≠ w1.heap.size) (fun b hb hb' => ⟨by simpa using hb', by omega⟩) t0 htr
   obtain ⟨dd, rfl, hdk, hda⟩ := htr.nd
   have HDA := hide hda
   clear hdk hda hE hk hr1 hk1 hp HI hfar h1
   unfold ND.v
   have hal := al1 w1 (.cells #[.int .i64 dd.k, .int .i64 dd.a, .slice dd.sp dd.sl dd.sc, .string dd.n, .slice dd.kp dd.kl dd.kc] 26)
   have hx4 := heap_alloc_new w1 (.cells #[.int .i64 dd.k, .int .i64 dd.a, .slice dd.sp dd.sl dd.sc, .string dd.n, .slice dd.kp dd.kl dd.kc] 26)
   have hR2 := hR1.later hal
   have hr3 := (hal.block w.heap.size hs1).trans hr2
   have hk3 := hk2.nb hk2.size hal
   have htr2 := htr.below hal
   clear hal hR1 hr2 hk2 htr
   go_wp2
   go_loopw [4] (fun _ wr => ∃ (j n : Nat) (t : T) (dd : ND), Hid (dd.a = t.at_) ∧ Hid (TR wr (fun b => w.heap.size + 1 ≤ b ∧ b ≠ w1.heap.size) t dd.v) ∧ wr.heap[w1.heap.size]? = some (.cells #[.int .i64 dd.k, .int .i64 dd.a, .slice dd.sp dd.sl dd.sc, .string dd.n, .slice dd.kp dd.kl dd.kc] 26) ∧ Rq wr R ao cap l j o 0 a ∧ Kp w.heap.size R w wr ∧ wr.heap[w.heap.size]? = some roomN ∧ j ≤ l.length ∧ Hid (l.length - j ≤ n) ∧ Hid (E.repL l.length l j0 t0 = E.repL n l j t)) (fun _ wr => l.length - rdAt wr R)
   case atStart => exact ⟨j0, l.length, t0, dd, HDA, hide htr2, hx4, hR2, hk3, hr3, hj0, hide (by omega), hide rfl⟩
   case round =>
     obtain ⟨j, n, t, dd, HDA, T0, x0, R0, k0, r0, hj, HN, HL⟩ := hrel
     clear hR2 hr3 hk3 htr2 hx4
     have hlt : ¬ rpt (tk l j) = 0 → j < l.length := E.rpt_lt
     have HAT := hide R0.at_
     have S42 : Hid (∀ W, Rq W R ao cap l j o 0 a → Calls Tryz.prog 79 #[.pointer (some ⟨R, 0, none⟩), .string ⟨#[42]⟩] W fun r w' => r = .returned (.bool (isS (tk l j) [42])) ∧ Below W.heap.size W w') := hide (fun W hR => by have := signQ [42] hR; simpa only [decide_true, Bool.true_and] using this)
     have S43 : Hid (∀ W, Rq W R ao cap l j o 0 a → Calls Tryz.prog 79 #[.pointer (some ⟨R, 0, none⟩), .string ⟨#[43]⟩] W fun r w' => r = .returned (.bool (isS (tk l j) [43])) ∧ Below W.heap.size W w') := hide (fun W hR => by have := signQ [43] hR; simpa only [decide_true, Bool.true_and] using this)
     have S63 : Hid (∀ W, Rq W R ao cap l j o 0 a → Calls Tryz.prog 79 #[.pointer (some ⟨R, 0, none⟩), .string ⟨#[63]⟩] W fun r w' => r = .returned (.bool (isS (tk l j) [63])) ∧ Below W.heap.size W w') := hide (fun W hR => by have := signQ [63] hR; simpa only [decide_true, Bool.true_and] using this)
     have HRP0 : Hid (rpt (tk l j) = if isS (tk l j) [42] = true then 6 else if isS (tk l j) [43] = true then 7 else if isS (tk l j) [63] = true then 8 else 0) := hide rfl
     have HNM : ∀ kk : Nat, ¬ kk = 0 → rpt (tk l j) = kk → j < l.length ∧ ∃ m, Hid (n = m + 1) := fun kk h0 h => ⟨hlt (by rw [h]; exact h0), n - 1, hide (by have := hlt (by rw [h]; exact h0); have := HN.out; omega)⟩
     have HNMH := hide HNM
     clear HNM hlt
     have hs1 := S42.out _ R0
     go_wp2_with fail
     refine hs1.mono ?_
     rintro e y1 ⟨rfl, hb1⟩
     have R1 := R0.later hb1
     have r1 := (hb1.block w.heap.size (Array.getElem?_eq_some_iff.1 r0).1).trans r0
     have x1 := (hb1.block w1.heap.size (Array.getElem?_eq_some_iff.1 x0).1).trans x0
     have k1 := k0.nb k0.size hb1
     have T1 := hide (T0.out.below hb1)
     clear R0 r0 x0 k0 T0 hb1
     clear hs1
     cases hq : isS (tk l j) [42] with
     | true =>
       have hkk : rpt (tk l j) = 6 := by rw [HRP0.out, if_pos hq]
       obtain ⟨hjl, m, HM⟩ := HNMH.out 6 (by decide) hkk
       clear S42 S43 S63 HRP0 HNMH hq
       have HL2 : Hid (E.repL l.length l j0 t0 = E.repL m l (j + 1) (.mk ((6 : Nat) : Int) t.at_ [] [] [t])) := hide (by rw [HL.out, HM.out, repL_step (by rw [hkk]; decide), hkk])
       have Ri := R1.put (j + 1)
       have ri := (Below.heap_setCell y1 ⟨R, 1, none⟩ (.int .i64 ((j + 1 : Nat) : Int)) w.heap.size (by show w.heap.size ≠ R; omega)).trans r1
       have xi := (Below.heap_setCell y1 ⟨R, 1, none⟩ (.int .i64 ((j + 1 : Nat) : Int)) w1.heap.size (by show w1.heap.size ≠ R; omega)).trans x1
       have ki := k1.set (p := ⟨R, 1, none⟩) (.inl rfl) (.int .i64 ((j + 1 : Nat) : Int))
       have Ti := hide (T1.out.put (j := 1) (u := .int .i64 ((j + 1 : Nat) : Int)) R1.noI (by rintro ⟨hh, _⟩; omega))
       obtain ⟨c0i, c1i, c2i, c3i, c4i⟩ := R1.cells
       have f1i := R1.frz 1
       have HEi : ((j + 1 : Nat) : Int) = (j : Int) + 1 := by omega
       rw [HEi] at Ri ri xi ki Ti
       clear HEi
       obtain ⟨y3, hy3⟩ : ∃ y3, y1.setCell ⟨R, 1, none⟩ (.int .i64 ((j : Int) + 1)) = y3 := ⟨_, rfl⟩
       rw [hy3] at Ri ri xi ki Ti
       clear T1 R1 r1 k1 x1
       obtain ⟨m0, m1, m2, m3, m4⟩ := cells_five xi
       have hal := al1 y3 (.cells #[.int .i64 dd.k, .int .i64 dd.a, .slice dd.sp dd.sl dd.sc, .string dd.n, .slice dd.kp dd.kl dd.kc] 26)
       have hn4 := heap_alloc_new y3 (.cells #[.int .i64 dd.k, .int .i64 dd.a, .slice dd.sp dd.sl dd.sc, .string dd.n, .slice dd.kp dd.kl dd.kc] 26)
       have R4 := Ri.later hal
       have r4 := (hal.block w.heap.size (Array.getElem?_eq_some_iff.1 ri).1).trans ri
       have x4 := (hal.block w1.heap.size (Array.getElem?_eq_some_iff.1 xi).1).trans xi
       have k4 := ki.nb ki.size hal
       have hb4s : w1.heap.size < y3.heap.size := (Array.getElem?_eq_some_iff.1 xi).1
       have T4 := hide (Ti.out.below hal)
       obtain ⟨y4, hy4⟩ : ∃ y4, y3.alloc (.cells #[.int .i64 dd.k, .int .i64 dd.a, .slice dd.sp dd.sl dd.sc, .string dd.n, .slice dd.kp dd.kl dd.kc] 26) = y4 := ⟨_, rfl⟩
       rw [hy4] at hn4 R4 r4 x4 k4 T4
       clear hal Ti Ri ri ki
       have T5 := hide (tr_one (6 : Int) hn4 (⟨by omega, by omega⟩ : w.heap.size + 1 ≤ y3.heap.size ∧ y3.heap.size ≠ w1.heap.size) T4.out HDA.out)
       clear T4
       obtain ⟨eq0, eq1, eq2, eq3, eq4⟩ := cells_five x4
       have eg0 := frozen_row x4 0
       have eg1 := frozen_row x4 1
       have eg2 := frozen_row x4 2
       have eg3 := frozen_row x4 3
       have eg4 := frozen_row x4 4
       have hRp := R4.putN (b := w1.heap.size) (by omega) (.int .i64 6) (.int .i64 dd.a) (.slice none 0 0) (.string ⟨#[]⟩) (.slice (some ⟨y3.heap.size, 0, none⟩) 1 1)
       have hrp2 := (putN_other (w := y4) (b := w1.heap.size) (k := w.heap.size) (v0 := .int .i64 6) (v1 := .int .i64 dd.a) (v2 := .slice none 0 0) (v3 := .string ⟨#[]⟩) (v4 := .slice (some ⟨y3.heap.size, 0, none⟩) 1 1) (by omega)).trans r4
       have hxp := putN_box (v0 := .int .i64 6) (v1 := .int .i64 dd.a) (v2 := .slice none 0 0) (v3 := .string ⟨#[]⟩) (v4 := .slice (some ⟨y3.heap.size, 0, none⟩) 1 1) x4
       have HKP := hide (putN_kp (b := w1.heap.size) (v0 := .int .i64 6) (v1 := .int .i64 dd.a) (v2 := .slice none 0 0) (v3 := .string ⟨#[]⟩) (v4 := .slice (some ⟨y3.heap.size, 0, none⟩) 1 1) k4 (by omega))
       have HTP := hide (T5.out.putN (v0 := .int .i64 6) (v1 := .int .i64 dd.a) (v2 := .slice none 0 0) (v3 := .string ⟨#[]⟩) (v4 := .slice (some ⟨y3.heap.size, 0, none⟩) 1 1) (nd_noI x4) (by rintro ⟨_, hh⟩; exact hh rfl))
       unfold putN at hRp hrp2 hxp HKP HTP
       have HRP := hide hRp
       have HXP := hide hxp
       have HRP2 := hide hrp2
       clear hRp hxp hrp2 R4 k4 r4 T5
       go_wp2
       exact ⟨⟨j + 1, m, .mk (6 : Int) t.at_ [] [] [t], ⟨6, dd.a, none, 0, 0, ⟨#[]⟩, some ⟨y3.heap.size, 0, none⟩, 1, 1⟩, HDA, HTP, HXP.out, HRP.out, HKP.out, HRP2.out, by omega, hide (by have := HN.out; have := HM.out; omega), HL2⟩, by rw [HRP.out.at_, HAT.out]; omega⟩
     | false =>
       have hs2 := S43.out _ R1
       go_wp2_with fail
       refine hs2.mono ?_
       rintro e y2 ⟨rfl, hb2⟩
       have R2 := R1.later hb2
       have r2 := (hb2.block w.heap.size (Array.getElem?_eq_some_iff.1 r1).1).trans r1
       have x2 := (hb2.block w1.heap.size (Array.getElem?_eq_some_iff.1 x1).1).trans x1
       have k2 := k1.nb k1.size hb2
       have T2 := hide (T1.out.below hb2)
       clear R1 r1 x1 k1 T1 hb2
       clear hs2
       cases hq3 : isS (tk l j) [43] with
       | true =>
         have hkk : rpt (tk l j) = 7 := by rw [HRP0.out, if_neg (by rw [hq]; decide), if_pos hq3]
         obtain ⟨hjl, m, HM⟩ := HNMH.out 7 (by decide) hkk
         clear S42 S43 S63 HRP0 HNMH hq hq3
         have HL2 : Hid (E.repL l.length l j0 t0 = E.repL m l (j + 1) (.mk ((7 : Nat) : Int) t.at_ [] [] [t])) := hide (by rw [HL.out, HM.out, repL_step (by rw [hkk]; decide), hkk])
         have Ri := R2.put (j + 1)
         have ri := (Below.heap_setCell y2 ⟨R, 1, none⟩ (.int .i64 ((j + 1 : Nat) : Int)) w.heap.size (by show w.heap.size ≠ R; omega)).trans r2
         have xi := (Below.heap_setCell y2 ⟨R, 1, none⟩ (.int .i64 ((j + 1 : Nat) : Int)) w1.heap.size (by show w1.heap.size ≠ R; omega)).trans x2
         have ki := k2.set (p := ⟨R, 1, none⟩) (.inl rfl) (.int .i64 ((j + 1 : Nat) : Int))
         have Ti := hide (T2.out.put (j := 1) (u := .int .i64 ((j + 1 : Nat) : Int)) R2.noI (by rintro ⟨hh, _⟩; omega))
         obtain ⟨c0i, c1i, c2i, c3i, c4i⟩ := R2.cells
         have f1i := R2.frz 1
         have HEi : ((j + 1 : Nat) : Int) = (j : Int) + 1 := by omega
         rw [HEi] at Ri ri xi ki Ti
         clear HEi
         obtain ⟨y3, hy3⟩ : ∃ y3, y2.setCell ⟨R, 1, none⟩ (.int .i64 ((j : Int) + 1)) = y3 := ⟨_, rfl⟩
         rw [hy3] at Ri ri xi ki Ti
         clear T2 R2 r2 k2 x2
         obtain ⟨m0, m1, m2, m3, m4⟩ := cells_five xi
         have hal := al1 y3 (.cells #[.int .i64 dd.k, .int .i64 dd.a, .slice dd.sp dd.sl dd.sc, .string dd.n, .slice dd.kp dd.kl dd.kc] 26)
         have hn4 := heap_alloc_new y3 (.cells #[.int .i64 dd.k, .int .i64 dd.a, .slice dd.sp dd.sl dd.sc, .string dd.n, .slice dd.kp dd.kl dd.kc] 26)
         have R4 := Ri.later hal
         have r4 := (hal.block w.heap.size (Array.getElem?_eq_some_iff.1 ri).1).trans ri
         have x4 := (hal.block w1.heap.size (Array.getElem?_eq_some_iff.1 xi).1).trans xi
         have k4 := ki.nb ki.size hal
         have hb4s : w1.heap.size < y3.heap.size := (Array.getElem?_eq_some_iff.1 xi).1
         have T4 := hide (Ti.out.below hal)
         obtain ⟨y4, hy4⟩ : ∃ y4, y3.alloc (.cells #[.int .i64 dd.k, .int .i64 dd.a, .slice dd.sp dd.sl dd.sc, .string dd.n, .slice dd.kp dd.kl dd.kc] 26) = y4 := ⟨_, rfl⟩
         rw [hy4] at hn4 R4 r4 x4 k4 T4
         clear hal Ti Ri ri ki
         have T5 := hide (tr_one (7 : Int) hn4 (⟨by omega, by omega⟩ : w.heap.size + 1 ≤ y3.heap.size ∧ y3.heap.size ≠ w1.heap.size) T4.out HDA.out)
         clear T4
         obtain ⟨eq0, eq1, eq2, eq3, eq4⟩ := cells_five x4
         have eg0 := frozen_row x4 0
         have eg1 := frozen_row x4 1
         have eg2 := frozen_row x4 2
         have eg3 := frozen_row x4 3
         have eg4 := frozen_row x4 4
         have hRp := R4.putN (b := w1.heap.size) (by omega) (.int .i64 7) (.int .i64 dd.a) (.slice none 0 0) (.string ⟨#[]⟩) (.slice (some ⟨y3.heap.size, 0, none⟩) 1 1)
         have hrp2 := (putN_other (w := y4) (b := w1.heap.size) (k := w.heap.size) (v0 := .int .i64 7) (v1 := .int .i64 dd.a) (v2 := .slice none 0 0) (v3 := .string ⟨#[]⟩) (v4 := .slice (some ⟨y3.heap.size, 0, none⟩) 1 1) (by omega)).trans r4
         have hxp := putN_box (v0 := .int .i64 7) (v1 := .int .i64 dd.a) (v2 := .slice none 0 0) (v3 := .string ⟨#[]⟩) (v4 := .slice (some ⟨y3.heap.size, 0, none⟩) 1 1) x4
         have HKP := hide (putN_kp (b := w1.heap.size) (v0 := .int .i64 7) (v1 := .int .i64 dd.a) (v2 := .slice none 0 0) (v3 := .string ⟨#[]⟩) (v4 := .slice (some ⟨y3.heap.size, 0, none⟩) 1 1) k4 (by omega))
         have HTP := hide (T5.out.putN (v0 := .int .i64 7) (v1 := .int .i64 dd.a) (v2 := .slice none 0 0) (v3 := .string ⟨#[]⟩) (v4 := .slice (some ⟨y3.heap.size, 0, none⟩) 1 1) (nd_noI x4) (by rintro ⟨_, hh⟩; exact hh rfl))
         unfold putN at hRp hrp2 hxp HKP HTP
         have HRP := hide hRp
         have HXP := hide hxp
         have HRP2 := hide hrp2
         clear hRp hxp hrp2 R4 k4 r4 T5
         go_wp2
         exact ⟨⟨j + 1, m, .mk (7 : Int) t.at_ [] [] [t], ⟨7, dd.a, none, 0, 0, ⟨#[]⟩, some ⟨y3.heap.size, 0, none⟩, 1, 1⟩, HDA, HTP, HXP.out, HRP.out, HKP.out, HRP2.out, by omega, hide (by have := HN.out; have := HM.out; omega), HL2⟩, by rw [HRP.out.at_, HAT.out]; omega⟩
       | false =>
         have hs9 := S63.out _ R2
         go_wp2_with fail
         refine hs9.mono ?_
         rintro e y9 ⟨rfl, hb9⟩
         have R9 := R2.later hb9
         have r9 := (hb9.block w.heap.size (Array.getElem?_eq_some_iff.1 r2).1).trans r2
         have x9 := (hb9.block w1.heap.size (Array.getElem?_eq_some_iff.1 x2).1).trans x2
         have k9 := k2.nb k2.size hb9
         have T9 := hide (T2.out.below hb9)
         clear R2 r2 x2 k2 T2 hb9
         clear hs9
         cases hq6 : isS (tk l j) [63] with
         | true =>
           have hkk : rpt (tk l j) = 8 := by rw [HRP0.out, if_neg (by rw [hq]; decide), if_neg (by rw [hq3]; decide), if_pos hq6]
           obtain ⟨hjl, m, HM⟩ := HNMH.out 8 (by decide) hkk
           clear S42 S43 S63 HRP0 HNMH hq hq3 hq6
           have HL2 : Hid (E.repL l.length l j0 t0 = E.repL m l (j + 1) (.mk ((8 : Nat) : Int) t.at_ [] [] [t])) := hide (by rw [HL.out, HM.out, repL_step (by rw [hkk]; decide), hkk])
           have Ri := R9.put (j + 1)
           have ri := (Below.heap_setCell y9 ⟨R, 1, none⟩ (.int .i64 ((j + 1 : Nat) : Int)) w.heap.size (by show w.heap.size ≠ R; omega)).trans r9
           have xi := (Below.heap_setCell y9 ⟨R, 1, none⟩ (.int .i64 ((j + 1 : Nat) : Int)) w1.heap.size (by show w1.heap.size ≠ R; omega)).trans x9
           have ki := k9.set (p := ⟨R, 1, none⟩) (.inl rfl) (.int .i64 ((j + 1 : Nat) : Int))
           have Ti := hide (T9.out.put (j := 1) (u := .int .i64 ((j + 1 : Nat) : Int)) R9.noI (by rintro ⟨hh, _⟩; omega))
           obtain ⟨c0i, c1i, c2i, c3i, c4i⟩ := R9.cells
           have f1i := R9.frz 1
           have HEi : ((j + 1 : Nat) : Int) = (j : Int) + 1 := by omega
           rw [HEi] at Ri ri xi ki Ti
           clear HEi
           obtain ⟨y3, hy3⟩ : ∃ y3, y9.setCell ⟨R, 1, none⟩ (.int .i64 ((j : Int) + 1)) = y3 := ⟨_, rfl⟩
           rw [hy3] at Ri ri xi ki Ti
           clear T9 R9 r9 k9 x9
           obtain ⟨m0, m1, m2, m3, m4⟩ := cells_five xi
           have hal := al1 y3 (.cells #[.int .i64 dd.k, .int .i64 dd.a, .slice dd.sp dd.sl dd.sc, .string dd.n, .slice dd.kp dd.kl dd.kc] 26)
           have hn4 := heap_alloc_new y3 (.cells #[.int .i64 dd.k, .int .i64 dd.a, .slice dd.sp dd.sl dd.sc, .string dd.n, .slice dd.kp dd.kl dd.kc] 26)
           have R4 := Ri.later hal
           have r4 := (hal.block w.heap.size (Array.getElem?_eq_some_iff.1 ri).1).trans ri
           have x4 := (hal.block w1.heap.size (Array.getElem?_eq_some_iff.1 xi).1).trans xi
           have k4 := ki.nb ki.size hal
           have hb4s : w1.heap.size < y3.heap.size := (Array.getElem?_eq_some_iff.1 xi).1
           have T4 := hide (Ti.out.below hal)
           obtain ⟨y4, hy4⟩ : ∃ y4, y3.alloc (.cells #[.int .i64 dd.k, .int .i64 dd.a, .slice dd.sp dd.sl dd.sc, .string dd.n, .slice dd.kp dd.kl dd.kc] 26) = y4 := ⟨_, rfl⟩
           rw [hy4] at hn4 R4 r4 x4 k4 T4
           clear hal Ti Ri ri ki
           have T5 := hide (tr_one (8 : Int) hn4 (⟨by omega, by omega⟩ : w.heap.size + 1 ≤ y3.heap.size ∧ y3.heap.size ≠ w1.heap.size) T4.out HDA.out)
           clear T4
           obtain ⟨eq0, eq1, eq2, eq3, eq4⟩ := cells_five x4
           have eg0 := frozen_row x4 0
           have eg1 := frozen_row x4 1
           have eg2 := frozen_row x4 2
           have eg3 := frozen_row x4 3
           have eg4 := frozen_row x4 4
           have hRp := R4.putN (b := w1.heap.size) (by omega) (.int .i64 8) (.int .i64 dd.a) (.slice none 0 0) (.string ⟨#[]⟩) (.slice (some ⟨y3.heap.size, 0, none⟩) 1 1)
           have hrp2 := (putN_other (w := y4) (b := w1.heap.size) (k := w.heap.size) (v0 := .int .i64 8) (v1 := .int .i64 dd.a) (v2 := .slice none 0 0) (v3 := .string ⟨#[]⟩) (v4 := .slice (some ⟨y3.heap.size, 0, none⟩) 1 1) (by omega)).trans r4
           have hxp := putN_box (v0 := .int .i64 8) (v1 := .int .i64 dd.a) (v2 := .slice none 0 0) (v3 := .string ⟨#[]⟩) (v4 := .slice (some ⟨y3.heap.size, 0, none⟩) 1 1) x4
           have HKP := hide (putN_kp (b := w1.heap.size) (v0 := .int .i64 8) (v1 := .int .i64 dd.a) (v2 := .slice none 0 0) (v3 := .string ⟨#[]⟩) (v4 := .slice (some ⟨y3.heap.size, 0, none⟩) 1 1) k4 (by omega))
           have HTP := hide (T5.out.putN (v0 := .int .i64 8) (v1 := .int .i64 dd.a) (v2 := .slice none 0 0) (v3 := .string ⟨#[]⟩) (v4 := .slice (some ⟨y3.heap.size, 0, none⟩) 1 1) (nd_noI x4) (by rintro ⟨_, hh⟩; exact hh rfl))
           unfold putN at hRp hrp2 hxp HKP HTP
           have HRP := hide hRp
           have HXP := hide hxp
           have HRP2 := hide hrp2
           clear hRp hxp hrp2 R4 k4 r4 T5
           go_wp2
           exact ⟨⟨j + 1, m, .mk (8 : Int) t.at_ [] [] [t], ⟨8, dd.a, none, 0, 0, ⟨#[]⟩, some ⟨y3.heap.size, 0, none⟩, 1, 1⟩, HDA, HTP, HXP.out, HRP.out, HKP.out, HRP2.out, by omega, hide (by have := HN.out; have := HM.out; omega), HL2⟩, by rw [HRP.out.at_, HAT.out]; omega⟩
         | false =>
           have hkk : rpt (tk l j) = 0 := by rw [HRP0.out, if_neg (by rw [hq]; decide), if_neg (by rw [hq3]; decide), if_neg (by rw [hq6]; decide)]
           have HO : Hid (r = .ok (t, j)) := hide (by rw [HI2.out, HL.out, repL_stop hkk])
           clear S42 S43 S63 HRP0 HNMH hq hq3 hq6 hkk HL HN
           obtain ⟨m0, m1, m2, m3, m4⟩ := cells_five x9
           obtain ⟨fq0, fq1, fq2, fq3, fq4⟩ := cells_five r9
           have fg0 := frozen_row r9 0
           have fg1 := frozen_row r9 1
           have fg2 := frozen_row r9 2
           have fg3 := frozen_row r9 3
           have fg4 := frozen_row r9 4
           have HK := hide k9
           have HRR := hide R9
           clear k9 R9
           go_wp2
           obtain ⟨u0, u1, u2, u3, u4⟩ := cells_five (putN_box (v0 := .int .i64 dd.k) (v1 := .int .i64 dd.a) (v2 := .slice dd.sp dd.sl dd.sc) (v3 := .string dd.n) (v4 := .slice dd.kp dd.kl dd.kc) r9)
           exact bodyPost_ret (w := putN y9 w.heap.size _ _ _ _ _) (v := .agg #[.int .i64 dd.k, .int .i64 dd.a, .slice dd.sp dd.sl dd.sc, .string dd.n, .slice dd.kp dd.kl dd.kc]) (by simp [results, Tryz.results114, go_sem, u0, u1, u2, u3, u4]) rfl ⟨putN_kp HK.out (Nat.le_refl _), .inl ⟨_, j, _, HO.out, rfl, TR.mono (fun b _ hb => by show w.heap.size ≤ b; have hb : w.heap.size + 1 ≤ b ∧ b ≠ w1.heap.size := hb; omega) _ (T9.out.putN (roomN_noI r9) (by rintro ⟨hh, _⟩; omega)), HRR.out.putN hRl _ _ _ _ _⟩⟩
 · have hr2 := hk.keep hr1 (by omega)
   have hk2 := hk1.nx (by simp) hk
   have hs1 : w.heap.size + 1 ≤ w1.heap.size := (Array.getElem?_eq_some_iff.1 hr2).1
   have HO : Hid (r = .error (c, k)) := hide (by rw [HI.out, hE])
   clear hE hk hr1 hk1 hp HI hfar h1
   unfold ND.v
   have hal := al1 w1 (.cells #[.int .i64 dd.k, .int .i64 dd.a, .slice dd.sp dd.sl dd.sc, .string dd.n, .slice dd.kp dd.kl dd.kc] 26)
   have x0 := heap_alloc_new w1 (.cells #[.int .i64 dd.k, .int .i64 dd.a, .slice dd.sp dd.sl dd.sc, .string dd.n, .slice dd.kp dd.kl dd.kc] 26)
   have R0 := hR1.later hal
   have r0 := (hal.block w.heap.size (Array.getElem?_eq_some_iff.1 hr2).1).trans hr2
   have k0 := hk2.nb hk2.size hal
   obtain ⟨w2, hw2⟩ : ∃ w2, w1.alloc (.cells #[.int .i64 dd.k, .int .i64 dd.a, .slice dd.sp dd.sl dd.sc, .string dd.n, .slice dd.kp dd.kl dd.kc] 26) = w2 := ⟨_, rfl⟩
   rw [hw2] at x0 R0 r0 k0
   have HC := hide hc
   clear hal hR1 hr2 hk2 hc
   go_wp2
   go_loopw [4] (fun _ wr => wr = w2) (fun _ _ => 0)
   case atStart => rfl
   case round =>
     obtain rfl := hrel
     have hs1 := signQ [42] R0
     rw [decide_eq_false HC.out, Bool.false_and] at hs1
     go_wp2_with fail
     refine hs1.mono ?_
     rintro e y1 ⟨rfl, hb1⟩
     have R1 := R0.later hb1
     have r1 := (hb1.block w.heap.size (Array.getElem?_eq_some_iff.1 r0).1).trans r0
     have x1 := (hb1.block w1.heap.size (Array.getElem?_eq_some_iff.1 x0).1).trans x0
     have k1 := k0.nb k0.size hb1
     clear R0 r0 x0 k0 hb1
     clear hs1
     have hs2 := signQ [43] R1
     rw [decide_eq_false HC.out, Bool.false_and] at hs2
     go_wp2_with fail
     refine hs2.mono ?_
     rintro e y2 ⟨rfl, hb2⟩
     have R2 := R1.later hb2
     have r2 := (hb2.block w.heap.size (Array.getElem?_eq_some_iff.1 r1).1).trans r1
     have x2 := (hb2.block w1.heap.size (Array.getElem?_eq_some_iff.1 x1).1).trans x1
     have k2 := k1.nb k1.size hb2
     clear R1 r1 x1 k1 hb2
     clear hs2
     have hs9 := signQ [63] R2
     rw [decide_eq_false HC.out, Bool.false_and] at hs9
     go_wp2_with fail
     refine hs9.mono ?_
     rintro e y9 ⟨rfl, hb9⟩
     have R9 := R2.later hb9
     have r9 := (hb9.block w.heap.size (Array.getElem?_eq_some_iff.1 r2).1).trans r2
     have x9 := (hb9.block w1.heap.size (Array.getElem?_eq_some_iff.1 x2).1).trans x2
     have k9 := k2.nb k2.size hb9
     clear R2 r2 x2 k2 hb9
     clear hs9
     obtain ⟨m0, m1, m2, m3, m4⟩ := cells_five x9
     obtain ⟨fq0, fq1, fq2, fq3, fq4⟩ := cells_five r9
     have fg0 := frozen_row r9 0
     have fg1 := frozen_row r9 1
     have fg2 := frozen_row r9 2
     have fg3 := frozen_row r9 3
     have fg4 := frozen_row r9 4
     have HK := hide k9
     have HRR := hide R9
     clear k9 R9
     go_wp2
     obtain ⟨u0, u1, u2, u3, u4⟩ := cells_five (putN_box (v0 := .int .i64 dd.k) (v1 := .int .i64 dd.a) (v2 := .slice dd.sp dd.sl dd.sc) (v3 := .string dd.n) (v4 := .slice dd.kp dd.kl dd.kc) r9)
     exact bodyPost_ret (w := putN y9 w.heap.size _ _ _ _ _) (v := .agg #[.int .i64 dd.k, .int .i64 dd.a, .slice dd.sp dd.sl dd.sc, .string dd.n, .slice dd.kp dd.kl dd.kc]) (by simp [results, Tryz.results114, go_sem, u0, u1, u2, u3, u4]) rfl ⟨putN_kp HK.out (Nat.le_refl _), .inr ⟨c, k, j, dd, HO.out, HC.out, rfl, HRR.out.putN hRl _ _ _ _ _⟩⟩
set_option maxRecDepth 100000 in
set_option maxHeartbeats 1000000 in
theorem catQ (d : Nat) (hA : ∀ d', d = d' + 1 → CAltQ d') {w : World} {R : Nat} {ao : Option Addr} {cap : Nat} {l : List E.Tok} {i o a : Nat} (h : Rq w R ao cap l i o 0 a) (hl : l.length ≤ 40000) (hg : E.Good l) (hd : o + d = 20) :
   Calls Tryz.prog 78 #[.pointer (some ⟨R, 0, none⟩)] w (AnsQ (E.catD d l i) R ao cap l o a w) := by
 have hRl := h.lt
 have h1 := h.later (al1 w roomN)
 have hr1 : (w.alloc roomN).heap[w.heap.size]? = some roomN := heap_alloc_new w _
 have hk1 : Kp w.heap.size R w (w.alloc roomN) := Kp.of (al1 w _)
 have HI : Hid (E.catD d l i = match E.repD d l i with | .error e => .error e | .ok (t, j) => E.catL (E.repD d l) l.length l j t) := hide (rfl)
 have hfar := E.repD_far l d i
 have hp := repQ d hA h1 hl hg hd
 generalize E.catD d l i = r at *
 have HQ : Hid (∀ W j, Rq W R ao cap l j o 0 a → Calls Tryz.prog 114 #[.pointer (some ⟨R, 0, none⟩)] W (AnsQ (E.repD d l j) R ao cap l o a W)) := hide (fun W j hR => repQ d hA hR hl hg hd)
 have HFR : Hid (∀ i t j, E.repD d l i = .ok (t, j) → i < j ∧ j ≤ l.length) := hide (E.repD_far l d)
 clear hA
 generalize E.repD d l = Q at *
 go_enter Tryz.func78, Tryz.ntmps78
 go_wp2_with fail
 refine hp.mono ?_
 rintro e w1 ⟨hk, ⟨t0, j0, v, hE, rfl, htr, hR1⟩ | ⟨c, k, j, dd, hE, hc, rfl, hR1⟩⟩
 · have hr2 := hk.keep hr1 (by omega)
   have hk2 := hk1.nx (by simp) hk
   have hs1 : w.heap.size + 1 ≤ w1.heap.size := (Array.getElem?_eq_some_iff.1 hr2).1
   have hj0 := (hfar t0 j0 hE).2
   have HI2 : Hid (r = E.catL Q l.length l j0 t0) := hide (by rw [HI.out, hE])
   have htr := TR.mono (ok' := fun b => w.heap.size + 1 ≤ b ∧ b ≠ w1.heap.size) (fun b hb hb' => ⟨by simpa using hb', by omega⟩) t0 htr
   obtain ⟨dd, rfl, hdk, hda⟩ := htr.nd
   have HDA := hide hda
   clear hdk hda hE hk hr1 hk1 hp HI hfar h1
   unfold ND.v
   have hal := al1 w1 (.cells #[.int .i64 dd.k, .int .i64 dd.a, .slice dd.sp dd.sl dd.sc, .string dd.n, .slice dd.kp dd.kl dd.kc] 26)
   have hx4 := heap_alloc_new w1 (.cells #[.int .i64 dd.k, .int .i64 dd.a, .slice dd.sp dd.sl dd.sc, .string dd.n, .slice dd.kp dd.kl dd.kc] 26)
   have hR2 := hR1.later hal
   have hr3 := (hal.block w.heap.size hs1).trans hr2
   have hk3 := hk2.nb hk2.size hal
   have htr2 := htr.below hal
   clear hal hR1 hr2 hk2 htr
   go_wp2
   go_loopw [4] (fun _ wr => ∃ (j : Nat) (dd : ND), wr.heap[w1.heap.size]? = some (.cells #[.int .i64 dd.k, .int .i64 dd.a, .slice dd.sp dd.sl dd.sc, .string dd.n, .slice dd.kp dd.kl dd.kc] 26) ∧ Kp w.heap.size R w wr ∧ wr.heap[w.heap.size]? = some roomN ∧ ((∃ (n : Nat) (t : T), Rq wr R ao cap l j o 0 a ∧ Hid (dd.a = t.at_) ∧ Hid (TR wr (fun b => w.heap.size + 1 ≤ b ∧ b ≠ w1.heap.size) t dd.v) ∧ j ≤ l.length ∧ Hid (l.length - j ≤ n) ∧ Hid (E.catL Q l.length l j0 t0 = E.catL Q n l j t)) ∨ ∃ c k, Hid (c ≠ 0) ∧ Rq wr R ao cap l j o c k ∧ Hid (E.catL Q l.length l j0 t0 = .error (c, k)))) (fun _ wr => mQ l.length R wr)
   case atStart => exact ⟨j0, dd, hx4, hk3, hr3, .inl ⟨l.length, t0, hR2, HDA, hide htr2, hj0, hide (by omega), hide rfl⟩⟩
   case round =>
     obtain ⟨j, dd, x0, k0, r0, hst⟩ := hrel
     clear hR2 hr3 hk3 htr2 hx4
     rcases hst with ⟨n, t, R0, HDA, T0, hj, HN, HL⟩ | ⟨c, k, HC, R0, HL⟩
     · have HM0 := hide (R0.m0 l.length)
       have hcd := beginsQ R0
       simp only [decide_true, Bool.true_and] at hcd
       have hbl : beg (tk l j) = true → j < l.length := E.beg_lt
       go_wp2_with fail
       refine hcd.mono ?_
       rintro e y1 ⟨rfl, hb1⟩
       have R1 := R0.later hb1
       have r1 := (hb1.block w.heap.size (Array.getElem?_eq_some_iff.1 r0).1).trans r0
       have x1 := (hb1.block w1.heap.size (Array.getElem?_eq_some_iff.1 x0).1).trans x0
       have k1 := k0.nb k0.size hb1
       have T1 := hide (T0.out.below hb1)
       clear R0 r0 x0 k0 T0 hb1
       clear hcd
       cases hz : beg (tk l j) with
       | false =>
         have HO : Hid (r = .ok (t, j)) := hide (by rw [HI2.out, HL.out, catL_stop hz])
         clear hz hbl HL HN HQ HFR
         obtain ⟨m0, m1, m2, m3, m4⟩ := cells_five x1
         obtain ⟨fq0, fq1, fq2, fq3, fq4⟩ := cells_five r1
         have fg0 := frozen_row r1 0
         have fg1 := frozen_row r1 1
         have fg2 := frozen_row r1 2
         have fg3 := frozen_row r1 3
         have fg4 := frozen_row r1 4
         have HK := hide k1
         have HRR := hide R1
         clear k1 R1
         go_wp2
         obtain ⟨u0, u1, u2, u3, u4⟩ := cells_five (putN_box (v0 := .int .i64 dd.k) (v1 := .int .i64 dd.a) (v2 := .slice dd.sp dd.sl dd.sc) (v3 := .string dd.n) (v4 := .slice dd.kp dd.kl dd.kc) r1)
         exact bodyPost_ret (w := putN y1 w.heap.size _ _ _ _ _) (v := .agg #[.int .i64 dd.k, .int .i64 dd.a, .slice dd.sp dd.sl dd.sc, .string dd.n, .slice dd.kp dd.kl dd.kc]) (by simp [results, Tryz.results78, go_sem, u0, u1, u2, u3, u4]) rfl ⟨putN_kp HK.out (Nat.le_refl _), .inl ⟨_, j, _, HO.out, rfl, TR.mono (fun b _ hb => by show w.heap.size ≤ b; have hb : w.heap.size + 1 ≤ b ∧ b ≠ w1.heap.size := hb; omega) _ (T1.out.putN (roomN_noI r1) (by rintro ⟨hh, _⟩; omega)), HRR.out.putN hRl _ _ _ _ _⟩⟩
       | true =>
         have hjl := hbl hz
         obtain ⟨m, HM⟩ : ∃ m, Hid (n = m + 1) := ⟨n - 1, hide (by have := HN.out; omega)⟩
         have HL2 : Hid (E.catL Q l.length l j0 t0 = match Q j with | .error e => .error e | .ok (u, k) => E.catL Q m l k (.mk 4 t.at_ [] [] [t, u])) := hide (by rw [HL.out, HM.out, catL_step hz]; cases Q j <;> rfl)
         clear hz hbl HL
         have hcl := HQ.out y1 j R1
         have hRlt : R < y1.heap.size := R1.lt
         have hxlt : w1.heap.size < y1.heap.size := (Array.getElem?_eq_some_iff.1 x1).1
         have NOI := hide R1.noI
         go_wp2_with fail
         refine hcl.mono ?_
         clear hcl
         rintro e y3 ⟨hkc, hh⟩
         have r3 := (hkc.block w.heap.size (by omega) (by omega)).trans r1
         have x3 := (hkc.block w1.heap.size hxlt (by omega)).trans x1
         have k3 := k1.nx k1.size hkc
         have T3 := hide (T1.out.kp hkc NOI.out (by rintro ⟨hh, _⟩; omega))
         clear r1 x1 k1 T1 R1 hkc NOI
         rcases hh with ⟨u, j2, v2, hE2, rfl, htr2, R3⟩ | ⟨c, k, j2, fd, hE2, hc2, rfl, R3⟩
         · have hfr := HFR.out _ _ _ hE2
           rw [hE2] at HL2
           have U3 := hide (TR.mono (ok' := fun b => w.heap.size + 1 ≤ b ∧ b ≠ w1.heap.size) (fun b hb hb' => by have hb' : y1.heap.size ≤ b := hb'; exact ⟨by omega, by omega⟩) u htr2)
           obtain ⟨fd, rfl, -, -⟩ := htr2.nd
           clear htr2 hE2
           unfold ND.v
           have hal := al1 y3 (.cells #[.int .i64 fd.k, .int .i64 fd.a, .slice fd.sp fd.sl fd.sc, .string fd.n, .slice fd.kp fd.kl fd.kc] 26)
           have hf4 := heap_alloc_new y3 (.cells #[.int .i64 fd.k, .int .i64 fd.a, .slice fd.sp fd.sl fd.sc, .string fd.n, .slice fd.kp fd.kl fd.kc] 26)
           have R4 := R3.later hal
           have r4 := (hal.block w.heap.size (Array.getElem?_eq_some_iff.1 r3).1).trans r3
           have x4 := (hal.block w1.heap.size (Array.getElem?_eq_some_iff.1 x3).1).trans x3
           have k4 := k3.nb k3.size hal
           have T4 := hide (T3.out.below hal)
           have U4 := hide (U3.out.below hal)
           clear T3 U3
           obtain ⟨y4, hy4⟩ : ∃ y4, y3.alloc (.cells #[.int .i64 fd.k, .int .i64 fd.a, .slice fd.sp fd.sl fd.sc, .string fd.n, .slice fd.kp fd.kl fd.kc] 26) = y4 := ⟨_, rfl⟩
           rw [hy4] at hf4 R4 r4 x4 k4 T4 U4
           obtain ⟨m0, m1, m2, m3, m4⟩ := cells_five x4
           obtain ⟨o0, o1, o2, o3, o4⟩ := cells_five hf4
           have hy3 : w1.heap.size < y3.heap.size := (Array.getElem?_eq_some_iff.1 x3).1
           have hy4s : y3.heap.size < y4.heap.size := (Array.getElem?_eq_some_iff.1 hf4).1
           have hal5 := al1 y4 (.cells #[.int .i64 dd.k, .int .i64 dd.a, .slice dd.sp dd.sl dd.sc, .string dd.n, .slice dd.kp dd.kl dd.kc, .int .i64 fd.k, .int .i64 fd.a, .slice fd.sp fd.sl fd.sc, .string fd.n, .slice fd.kp fd.kl fd.kc] 26)
           have hn5 := heap_alloc_new y4 (.cells #[.int .i64 dd.k, .int .i64 dd.a, .slice dd.sp dd.sl dd.sc, .string dd.n, .slice dd.kp dd.kl dd.kc, .int .i64 fd.k, .int .i64 fd.a, .slice fd.sp fd.sl fd.sc, .string fd.n, .slice fd.kp fd.kl fd.kc] 26)
           have R5 := R4.later hal5
           have r5 := (hal5.block w.heap.size (Array.getElem?_eq_some_iff.1 r4).1).trans r4
           have x5 := (hal5.block w1.heap.size (Array.getElem?_eq_some_iff.1 x4).1).trans x4
           have k5 := k4.nb k4.size hal5
           have T5 := hide (T4.out.below hal5)
           have U5 := hide (U4.out.below hal5)
           clear T4 U4
           obtain ⟨y5, hy5⟩ : ∃ y5, y4.alloc (.cells #[.int .i64 dd.k, .int .i64 dd.a, .slice dd.sp dd.sl dd.sc, .string dd.n, .slice dd.kp dd.kl dd.kc, .int .i64 fd.k, .int .i64 fd.a, .slice fd.sp fd.sl fd.sc, .string fd.n, .slice fd.kp fd.kl fd.kc] 26) = y5 := ⟨_, rfl⟩
           rw [hy5] at hn5 R5 r5 x5 k5 T5 U5
           have T6 := hide (tr_two (4 : Int) (d := dd) (e := fd) hn5 (⟨by omega, by omega⟩ : w.heap.size + 1 ≤ y4.heap.size ∧ y4.heap.size ≠ w1.heap.size) T5.out U5.out HDA.out)
           clear T5 U5
           obtain ⟨eq0, eq1, eq2, eq3, eq4⟩ := cells_five x5
           have eg0 := frozen_row x5 0
           have eg1 := frozen_row x5 1
           have eg2 := frozen_row x5 2
           have eg3 := frozen_row x5 3
           have eg4 := frozen_row x5 4
           have hRp := R5.putN (b := w1.heap.size) (by omega) (.int .i64 4) (.int .i64 dd.a) (.slice none 0 0) (.string ⟨#[]⟩) (.slice (some ⟨y4.heap.size, 0, none⟩) 2 2)
           have hrp2 := (putN_other (w := y5) (b := w1.heap.size) (k := w.heap.size) (v0 := .int .i64 4) (v1 := .int .i64 dd.a) (v2 := .slice none 0 0) (v3 := .string ⟨#[]⟩) (v4 := .slice (some ⟨y4.heap.size, 0, none⟩) 2 2) (by omega)).trans r5
           have hxp := putN_box (v0 := .int .i64 4) (v1 := .int .i64 dd.a) (v2 := .slice none 0 0) (v3 := .string ⟨#[]⟩) (v4 := .slice (some ⟨y4.heap.size, 0, none⟩) 2 2) x5
           have HKP := hide (putN_kp (b := w1.heap.size) (v0 := .int .i64 4) (v1 := .int .i64 dd.a) (v2 := .slice none 0 0) (v3 := .string ⟨#[]⟩) (v4 := .slice (some ⟨y4.heap.size, 0, none⟩) 2 2) k5 (by omega))
           have HTP := hide (T6.out.putN (v0 := .int .i64 4) (v1 := .int .i64 dd.a) (v2 := .slice none 0 0) (v3 := .string ⟨#[]⟩) (v4 := .slice (some ⟨y4.heap.size, 0, none⟩) 2 2) (nd_noI x5) (by rintro ⟨_, hh⟩; exact hh rfl))
           unfold putN at HTP
           unfold putN at hRp hrp2 hxp HKP
           have HRP := hide hRp
           have HXP := hide hxp
           have HRP2 := hide hrp2
           clear hRp hxp hrp2 R5 k5 r5 R4 k4 r4 R3 k3 r3 hal hal5
           go_wp2
           exact ⟨⟨j2, ⟨4, dd.a, none, 0, 0, ⟨#[]⟩, some ⟨y4.heap.size, 0, none⟩, 2, 2⟩, HXP.out, HKP.out, HRP2.out, .inl ⟨m, .mk 4 t.at_ [] [] [t, u], HRP.out, HDA, HTP, hfr.2, hide (by have := HN.out; have := HM.out; omega), HL2⟩⟩, by rw [HRP.out.m0, HM0.out]; omega⟩
         · rw [hE2] at HL2
           have HC2 := hide hc2
           clear hE2 hc2 T3
           unfold ND.v
           have hal := al1 y3 (.cells #[.int .i64 fd.k, .int .i64 fd.a, .slice fd.sp fd.sl fd.sc, .string fd.n, .slice fd.kp fd.kl fd.kc] 26)
           have hf4 := heap_alloc_new y3 (.cells #[.int .i64 fd.k, .int .i64 fd.a, .slice fd.sp fd.sl fd.sc, .string fd.n, .slice fd.kp fd.kl fd.kc] 26)
           have R4 := R3.later hal
           have r4 := (hal.block w.heap.size (Array.getElem?_eq_some_iff.1 r3).1).trans r3
           have x4 := (hal.block w1.heap.size (Array.getElem?_eq_some_iff.1 x3).1).trans x3
           have k4 := k3.nb k3.size hal
           obtain ⟨y4, hy4⟩ : ∃ y4, y3.alloc (.cells #[.int .i64 fd.k, .int .i64 fd.a, .slice fd.sp fd.sl fd.sc, .string fd.n, .slice fd.kp fd.kl fd.kc] 26) = y4 := ⟨_, rfl⟩
           rw [hy4] at hf4 R4 r4 x4 k4
           obtain ⟨m0, m1, m2, m3, m4⟩ := cells_five x4
           obtain ⟨o0, o1, o2, o3, o4⟩ := cells_five hf4
           have hy3 : w1.heap.size < y3.heap.size := (Array.getElem?_eq_some_iff.1 x3).1
           have hy4s : y3.heap.size < y4.heap.size := (Array.getElem?_eq_some_iff.1 hf4).1
           have hal5 := al1 y4 (.cells #[.int .i64 dd.k, .int .i64 dd.a, .slice dd.sp dd.sl dd.sc, .string dd.n, .slice dd.kp dd.kl dd.kc, .int .i64 fd.k, .int .i64 fd.a, .slice fd.sp fd.sl fd.sc, .string fd.n, .slice fd.kp fd.kl fd.kc] 26)
           have hn5 := heap_alloc_new y4 (.cells #[.int .i64 dd.k, .int .i64 dd.a, .slice dd.sp dd.sl dd.sc, .string dd.n, .slice dd.kp dd.kl dd.kc, .int .i64 fd.k, .int .i64 fd.a, .slice fd.sp fd.sl fd.sc, .string fd.n, .slice fd.kp fd.kl fd.kc] 26)
           have R5 := R4.later hal5
           have r5 := (hal5.block w.heap.size (Array.getElem?_eq_some_iff.1 r4).1).trans r4
           have x5 := (hal5.block w1.heap.size (Array.getElem?_eq_some_iff.1 x4).1).trans x4
           have k5 := k4.nb k4.size hal5
           obtain ⟨y5, hy5⟩ : ∃ y5, y4.alloc (.cells #[.int .i64 dd.k, .int .i64 dd.a, .slice dd.sp dd.sl dd.sc, .string dd.n, .slice dd.kp dd.kl dd.kc, .int .i64 fd.k, .int .i64 fd.a, .slice fd.sp fd.sl fd.sc, .string fd.n, .slice fd.kp fd.kl fd.kc] 26) = y5 := ⟨_, rfl⟩
           rw [hy5] at hn5 R5 r5 x5 k5
           obtain ⟨eq0, eq1, eq2, eq3, eq4⟩ := cells_five x5
           have eg0 := frozen_row x5 0
           have eg1 := frozen_row x5 1
           have eg2 := frozen_row x5 2
           have eg3 := frozen_row x5 3
           have eg4 := frozen_row x5 4
           have hRp := R5.putN (b := w1.heap.size) (by omega) (.int .i64 4) (.int .i64 dd.a) (.slice none 0 0) (.string ⟨#[]⟩) (.slice (some ⟨y4.heap.size, 0, none⟩) 2 2)
           have hrp2 := (putN_other (w := y5) (b := w1.heap.size) (k := w.heap.size) (v0 := .int .i64 4) (v1 := .int .i64 dd.a) (v2 := .slice none 0 0) (v3 := .string ⟨#[]⟩) (v4 := .slice (some ⟨y4.heap.size, 0, none⟩) 2 2) (by omega)).trans r5
           have hxp := putN_box (v0 := .int .i64 4) (v1 := .int .i64 dd.a) (v2 := .slice none 0 0) (v3 := .string ⟨#[]⟩) (v4 := .slice (some ⟨y4.heap.size, 0, none⟩) 2 2) x5
           have HKP := hide (putN_kp (b := w1.heap.size) (v0 := .int .i64 4) (v1 := .int .i64 dd.a) (v2 := .slice none 0 0) (v3 := .string ⟨#[]⟩) (v4 := .slice (some ⟨y4.heap.size, 0, none⟩) 2 2) k5 (by omega))
           unfold putN at hRp hrp2 hxp HKP
           have HRP := hide hRp
           have HXP := hide hxp
           have HRP2 := hide hrp2
           clear hRp hxp hrp2 R5 k5 r5 R4 k4 r4 R3 k3 r3 hal hal5
           go_wp2
           exact ⟨⟨j2, ⟨4, dd.a, none, 0, 0, ⟨#[]⟩, some ⟨y4.heap.size, 0, none⟩, 2, 2⟩, HXP.out, HKP.out, HRP2.out, .inr ⟨c, k, HC2, HRP.out, HL2⟩⟩, by rw [HRP.out.m1 HC2.out, HM0.out]; omega⟩
     · have HO : Hid (r = .error (c, k)) := hide (by rw [HI2.out, HL.out])
       have hcd := beginsQ R0
       rw [decide_eq_false HC.out, Bool.false_and] at hcd
       go_wp2_with fail
       refine hcd.mono ?_
       rintro e y1 ⟨rfl, hb1⟩
       have R1 := R0.later hb1
       have r1 := (hb1.block w.heap.size (Array.getElem?_eq_some_iff.1 r0).1).trans r0
       have x1 := (hb1.block w1.heap.size (Array.getElem?_eq_some_iff.1 x0).1).trans x0
       have k1 := k0.nb k0.size hb1
       clear R0 r0 x0 k0 hb1
       clear hcd
       obtain ⟨m0, m1, m2, m3, m4⟩ := cells_five x1
       obtain ⟨fq0, fq1, fq2, fq3, fq4⟩ := cells_five r1
       have fg0 := frozen_row r1 0
       have fg1 := frozen_row r1 1
       have fg2 := frozen_row r1 2
       have fg3 := frozen_row r1 3
       have fg4 := frozen_row r1 4
       have HK := hide k1
       have HRR := hide R1
       clear k1 R1
       go_wp2
       obtain ⟨u0, u1, u2, u3, u4⟩ := cells_five (putN_box (v0 := .int .i64 dd.k) (v1 := .int .i64 dd.a) (v2 := .slice dd.sp dd.sl dd.sc) (v3 := .string dd.n) (v4 := .slice dd.kp dd.kl dd.kc) r1)
       exact bodyPost_ret (w := putN y1 w.heap.size _ _ _ _ _) (v := .agg #[.int .i64 dd.k, .int .i64 dd.a, .slice dd.sp dd.sl dd.sc, .string dd.n, .slice dd.kp dd.kl dd.kc]) (by simp [results, Tryz.results78, go_sem, u0, u1, u2, u3, u4]) rfl ⟨putN_kp HK.out (Nat.le_refl _), .inr ⟨c, k, j, dd, HO.out, HC.out, rfl, HRR.out.putN hRl _ _ _ _ _⟩⟩
 · have hr2 := hk.keep hr1 (by omega)
   have hk2 := hk1.nx (by simp) hk
   have hs1 : w.heap.size + 1 ≤ w1.heap.size := (Array.getElem?_eq_some_iff.1 hr2).1
   have HO : Hid (r = .error (c, k)) := hide (by rw [HI.out, hE])
   clear hE hk hr1 hk1 hp HI hfar h1 HQ HFR
   unfold ND.v
   have hal := al1 w1 (.cells #[.int .i64 dd.k, .int .i64 dd.a, .slice dd.sp dd.sl dd.sc, .string dd.n, .slice dd.kp dd.kl dd.kc] 26)
   have x0 := heap_alloc_new w1 (.cells #[.int .i64 dd.k, .int .i64 dd.a, .slice dd.sp dd.sl dd.sc, .string dd.n, .slice dd.kp dd.kl dd.kc] 26)
   have R0 := hR1.later hal
   have r0 := (hal.block w.heap.size (Array.getElem?_eq_some_iff.1 hr2).1).trans hr2
   have k0 := hk2.nb hk2.size hal
   obtain ⟨w2, hw2⟩ : ∃ w2, w1.alloc (.cells #[.int .i64 dd.k, .int .i64 dd.a, .slice dd.sp dd.sl dd.sc, .string dd.n, .slice dd.kp dd.kl dd.kc] 26) = w2 := ⟨_, rfl⟩
   rw [hw2] at x0 R0 r0 k0
   have HC := hide hc
   clear hal hR1 hr2 hk2 hc
   go_wp2
   go_loopw [4] (fun _ wr => wr = w2) (fun _ _ => 0)
   case atStart => rfl
   case round =>
     obtain rfl := hrel
     have hcd := beginsQ R0
     rw [decide_eq_false HC.out, Bool.false_and] at hcd
     go_wp2_with fail
     refine hcd.mono ?_
     rintro e y1 ⟨rfl, hb1⟩
     have R1 := R0.later hb1
     have r1 := (hb1.block w.heap.size (Array.getElem?_eq_some_iff.1 r0).1).trans r0
     have x1 := (hb1.block w1.heap.size (Array.getElem?_eq_some_iff.1 x0).1).trans x0
     have k1 := k0.nb k0.size hb1
     clear R0 r0 x0 k0 hb1
     clear hcd
     obtain ⟨m0, m1, m2, m3, m4⟩ := cells_five x1
     obtain ⟨fq0, fq1, fq2, fq3, fq4⟩ := cells_five r1
     have fg0 := frozen_row r1 0
     have fg1 := frozen_row r1 1
     have fg2 := frozen_row r1 2
     have fg3 := frozen_row r1 3
     have fg4 := frozen_row r1 4
     have HK := hide k1
     have HRR := hide R1
     clear k1 R1
     go_wp2
     obtain ⟨u0, u1, u2, u3, u4⟩ := cells_five (putN_box (v0 := .int .i64 dd.k) (v1 := .int .i64 dd.a) (v2 := .slice dd.sp dd.sl dd.sc) (v3 := .string dd.n) (v4 := .slice dd.kp dd.kl dd.kc) r1)
     exact bodyPost_ret (w := putN y1 w.heap.size _ _ _ _ _) (v := .agg #[.int .i64 dd.k, .int .i64 dd.a, .slice dd.sp dd.sl dd.sc, .string dd.n, .slice dd.kp dd.kl dd.kc]) (by simp [results, Tryz.results78, go_sem, u0, u1, u2, u3, u4]) rfl ⟨putN_kp HK.out (Nat.le_refl _), .inr ⟨c, k, j, dd, HO.out, HC.out, rfl, HRR.out.putN hRl _ _ _ _ _⟩⟩
set_option maxRecDepth 100000 in
set_option maxHeartbeats 1000000 in
theorem altQ (d : Nat) (hA : ∀ d', d = d' + 1 → CAltQ d') {w : World} {R : Nat} {ao : Option Addr} {cap : Nat} {l : List E.Tok} {i o a : Nat} (h : Rq w R ao cap l i o 0 a) (hl : l.length ≤ 40000) (hg : E.Good l) (hd : o + d = 20) :
   Calls Tryz.prog 46 #[.pointer (some ⟨R, 0, none⟩)] w (AnsQ (E.alt d l i) R ao cap l o a w) := by
 have hRl := h.lt
 have h1 := h.later (al1 w roomN)
 have hr1 : (w.alloc roomN).heap[w.heap.size]? = some roomN := heap_alloc_new w _
 have hk1 : Kp w.heap.size R w (w.alloc roomN) := Kp.of (al1 w _)
 have HI : Hid (E.alt d l i = match E.catD d l i with | .error e => .error e | .ok (t, j) => E.altL (E.catD d l) l.length l j t) := hide (E.alt_eq d l i)
 have hfar := E.catD_far l d i
 have hp := catQ d hA h1 hl hg hd
 generalize E.alt d l i = r at *
 have HQ : Hid (∀ W j, Rq W R ao cap l j o 0 a → Calls Tryz.prog 78 #[.pointer (some ⟨R, 0, none⟩)] W (AnsQ (E.catD d l j) R ao cap l o a W)) := hide (fun W j hR => catQ d hA hR hl hg hd)
 have HFR : Hid (∀ i t j, E.catD d l i = .ok (t, j) → i < j ∧ j ≤ l.length) := hide (E.catD_far l d)
 clear hA
 generalize E.catD d l = Q at *
 go_enter Tryz.func46, Tryz.ntmps46
 go_wp2_with fail
 refine hp.mono ?_
 rintro e w1 ⟨hk, ⟨t0, j0, v, hE, rfl, htr, hR1⟩ | ⟨c, k, j, dd, hE, hc, rfl, hR1⟩⟩
 · have hr2 := hk.keep hr1 (by omega)
   have hk2 := hk1.nx (by simp) hk
   have hs1 : w.heap.size + 1 ≤ w1.heap.size := (Array.getElem?_eq_some_iff.1 hr2).1
   have hj0 := (hfar t0 j0 hE).2
   have HI2 : Hid (r = E.altL Q l.length l j0 t0) := hide (by rw [HI.out, hE])
   have htr := TR.mono (ok' := fun b => w.heap.size + 1 ≤ b ∧ b ≠ w1.heap.size) (fun b hb hb' => ⟨by simpa using hb', by omega⟩) t0 htr
   obtain ⟨dd, rfl, hdk, hda⟩ := htr.nd
   have HDA := hide hda
   clear hdk hda hE hk hr1 hk1 hp HI hfar h1
   unfold ND.v
   have hal := al1 w1 (.cells #[.int .i64 dd.k, .int .i64 dd.a, .slice dd.sp dd.sl dd.sc, .string dd.n, .slice dd.kp dd.kl dd.kc] 26)
   have hx4 := heap_alloc_new w1 (.cells #[.int .i64 dd.k, .int .i64 dd.a, .slice dd.sp dd.sl dd.sc, .string dd.n, .slice dd.kp dd.kl dd.kc] 26)
   have hR2 := hR1.later hal
   have hr3 := (hal.block w.heap.size hs1).trans hr2
   have hk3 := hk2.nb hk2.size hal
   have htr2 := htr.below hal
   clear hal hR1 hr2 hk2 htr
   go_wp2
   go_loopw [4] (fun _ wr => ∃ (j : Nat) (dd : ND), wr.heap[w1.heap.size]? = some (.cells #[.int .i64 dd.k, .int .i64 dd.a, .slice dd.sp dd.sl dd.sc, .string dd.n, .slice dd.kp dd.kl dd.kc] 26) ∧ Kp w.heap.size R w wr ∧ wr.heap[w.heap.size]? = some roomN ∧ ((∃ (n : Nat) (t : T), Rq wr R ao cap l j o 0 a ∧ Hid (dd.a = t.at_) ∧ Hid (TR wr (fun b => w.heap.size + 1 ≤ b ∧ b ≠ w1.heap.size) t dd.v) ∧ j ≤ l.length ∧ Hid (l.length - j ≤ n) ∧ Hid (E.altL Q l.length l j0 t0 = E.altL Q n l j t)) ∨ ∃ c k, Hid (c ≠ 0) ∧ Rq wr R ao cap l j o c k ∧ Hid (E.altL Q l.length l j0 t0 = .error (c, k)))) (fun _ wr => mQ l.length R wr)
   case atStart => exact ⟨j0, dd, hx4, hk3, hr3, .inl ⟨l.length, t0, hR2, HDA, hide htr2, hj0, hide (by omega), hide rfl⟩⟩
   case round =>
     obtain ⟨j, dd, x0, k0, r0, hst⟩ := hrel
     clear hR2 hr3 hk3 htr2 hx4
     rcases hst with ⟨n, t, R0, HDA, T0, hj, HN, HL⟩ | ⟨c, k, HC, R0, HL⟩
     · have HM0 := hide (R0.m0 l.length)
       have hcd := signQ [124] R0
       simp only [decide_true, Bool.true_and] at hcd
       have hbl : isS (tk l j) [124] = true → j < l.length := E.isS_lt
       go_wp2_with fail
       refine hcd.mono ?_
       rintro e y1 ⟨rfl, hb1⟩
       have R1 := R0.later hb1
       have r1 := (hb1.block w.heap.size (Array.getElem?_eq_some_iff.1 r0).1).trans r0
       have x1 := (hb1.block w1.heap.size (Array.getElem?_eq_some_iff.1 x0).1).trans x0
       have k1 := k0.nb k0.size hb1
       have T1 := hide (T0.out.below hb1)
       clear R0 r0 x0 k0 T0 hb1
       clear hcd
       cases hz : isS (tk l j) [124] with
       | false =>
         have HO : Hid (r = .ok (t, j)) := hide (by rw [HI2.out, HL.out, altL_stop hz])
         clear hz hbl HL HN HQ HFR
         obtain ⟨m0, m1, m2, m3, m4⟩ := cells_five x1
         obtain ⟨fq0, fq1, fq2, fq3, fq4⟩ := cells_five r1
         have fg0 := frozen_row r1 0
         have fg1 := frozen_row r1 1
         have fg2 := frozen_row r1 2
         have fg3 := frozen_row r1 3
         have fg4 := frozen_row r1 4
         have HK := hide k1
         have HRR := hide R1
         clear k1 R1
         go_wp2
         obtain ⟨u0, u1, u2, u3, u4⟩ := cells_five (putN_box (v0 := .int .i64 dd.k) (v1 := .int .i64 dd.a) (v2 := .slice dd.sp dd.sl dd.sc) (v3 := .string dd.n) (v4 := .slice dd.kp dd.kl dd.kc) r1)
         exact bodyPost_ret (w := putN y1 w.heap.size _ _ _ _ _) (v := .agg #[.int .i64 dd.k, .int .i64 dd.a, .slice dd.sp dd.sl dd.sc, .string dd.n, .slice dd.kp dd.kl dd.kc]) (by simp [results, Tryz.results46, go_sem, u0, u1, u2, u3, u4]) rfl ⟨putN_kp HK.out (Nat.le_refl _), .inl ⟨_, j, _, HO.out, rfl, TR.mono (fun b _ hb => by show w.heap.size ≤ b; have hb : w.heap.size + 1 ≤ b ∧ b ≠ w1.heap.size := hb; omega) _ (T1.out.putN (roomN_noI r1) (by rintro ⟨hh, _⟩; omega)), HRR.out.putN hRl _ _ _ _ _⟩⟩
       | true =>
         have hjl := hbl hz
         obtain ⟨m, HM⟩ : ∃ m, Hid (n = m + 1) := ⟨n - 1, hide (by have := HN.out; omega)⟩
         have HL2 : Hid (E.altL Q l.length l j0 t0 = match Q (j + 1) with | .error e => .error e | .ok (u, k) => E.altL Q m l k (.mk 5 t.at_ [] [] [t, u])) := hide (by rw [HL.out, HM.out, altL_step hz]; cases Q (j + 1) <;> rfl)
         clear hz hbl HL
         have R2 := R1.put (j + 1)
         have r2 := (Below.heap_setCell y1 ⟨R, 1, none⟩ (.int .i64 ((j + 1 : Nat) : Int)) w.heap.size (by show w.heap.size ≠ R; omega)).trans r1
         have x2 := (Below.heap_setCell y1 ⟨R, 1, none⟩ (.int .i64 ((j + 1 : Nat) : Int)) w1.heap.size (by show w1.heap.size ≠ R; omega)).trans x1
         have k2 := k1.set (p := ⟨R, 1, none⟩) (.inl rfl) (.int .i64 ((j + 1 : Nat) : Int))
         have T2 := hide (T1.out.put (j := 1) (u := .int .i64 ((j + 1 : Nat) : Int)) R1.noI (by rintro ⟨hh, _⟩; omega))
         obtain ⟨c02, c12, c22, c32, c42⟩ := R1.cells
         have f12 := R1.frz 1
         have HE2 : ((j + 1 : Nat) : Int) = (j : Int) + 1 := by omega
         rw [HE2] at R2 r2 x2 k2 T2
         clear HE2
         obtain ⟨y2, hy2⟩ : ∃ y2, y1.setCell ⟨R, 1, none⟩ (.int .i64 ((j : Int) + 1)) = y2 := ⟨_, rfl⟩
         rw [hy2] at R2 r2 x2 k2 T2
         clear T1 R1 r1 k1 x1
         have hcl := HQ.out y2 (j + 1) R2
         have hRlt : R < y2.heap.size := R2.lt
         have hxlt : w1.heap.size < y2.heap.size := (Array.getElem?_eq_some_iff.1 x2).1
         have NOI := hide R2.noI
         go_wp2_with fail
         refine hcl.mono ?_
         clear hcl
         rintro e y3 ⟨hkc, hh⟩
         have r3 := (hkc.block w.heap.size (by omega) (by omega)).trans r2
         have x3 := (hkc.block w1.heap.size hxlt (by omega)).trans x2
         have k3 := k2.nx k2.size hkc
         have T3 := hide (T2.out.kp hkc NOI.out (by rintro ⟨hh, _⟩; omega))
         clear r2 x2 k2 T2 R2 hkc NOI
         rcases hh with ⟨u, j2, v2, hE2, rfl, htr2, R3⟩ | ⟨c, k, j2, fd, hE2, hc2, rfl, R3⟩
         · have hfr := HFR.out _ _ _ hE2
           rw [hE2] at HL2
           have U3 := hide (TR.mono (ok' := fun b => w.heap.size + 1 ≤ b ∧ b ≠ w1.heap.size) (fun b hb hb' => by have hb' : y2.heap.size ≤ b := hb'; exact ⟨by omega, by omega⟩) u htr2)
           obtain ⟨fd, rfl, -, -⟩ := htr2.nd
           clear htr2 hE2
           unfold ND.v
           have hal := al1 y3 (.cells #[.int .i64 fd.k, .int .i64 fd.a, .slice fd.sp fd.sl fd.sc, .string fd.n, .slice fd.kp fd.kl fd.kc] 26)
           have hf4 := heap_alloc_new y3 (.cells #[.int .i64 fd.k, .int .i64 fd.a, .slice fd.sp fd.sl fd.sc, .string fd.n, .slice fd.kp fd.kl fd.kc] 26)
           have R4 := R3.later hal
           have r4 := (hal.block w.heap.size (Array.getElem?_eq_some_iff.1 r3).1).trans r3
           have x4 := (hal.block w1.heap.size (Array.getElem?_eq_some_iff.1 x3).1).trans x3
           have k4 := k3.nb k3.size hal
           have T4 := hide (T3.out.below hal)
           have U4 := hide (U3.out.below hal)
           clear T3 U3
           obtain ⟨y4, hy4⟩ : ∃ y4, y3.alloc (.cells #[.int .i64 fd.k, .int .i64 fd.a, .slice fd.sp fd.sl fd.sc, .string fd.n, .slice fd.kp fd.kl fd.kc] 26) = y4 := ⟨_, rfl⟩
           rw [hy4] at hf4 R4 r4 x4 k4 T4 U4
           obtain ⟨m0, m1, m2, m3, m4⟩ := cells_five x4
           obtain ⟨o0, o1, o2, o3, o4⟩ := cells_five hf4
           have hy3 : w1.heap.size < y3.heap.size := (Array.getElem?_eq_some_iff.1 x3).1
           have hy4s : y3.heap.size < y4.heap.size := (Array.getElem?_eq_some_iff.1 hf4).1
           have hal5 := al1 y4 (.cells #[.int .i64 dd.k, .int .i64 dd.a, .slice dd.sp dd.sl dd.sc, .string dd.n, .slice dd.kp dd.kl dd.kc, .int .i64 fd.k, .int .i64 fd.a, .slice fd.sp fd.sl fd.sc, .string fd.n, .slice fd.kp fd.kl fd.kc] 26)
           have hn5 := heap_alloc_new y4 (.cells #[.int .i64 dd.k, .int .i64 dd.a, .slice dd.sp dd.sl dd.sc, .string dd.n, .slice dd.kp dd.kl dd.kc, .int .i64 fd.k, .int .i64 fd.a, .slice fd.sp fd.sl fd.sc, .string fd.n, .slice fd.kp fd.kl fd.kc] 26)
           have R5 := R4.later hal5
           have r5 := (hal5.block w.heap.size (Array.getElem?_eq_some_iff.1 r4).1).trans r4
           have x5 := (hal5.block w1.heap.size (Array.getElem?_eq_some_iff.1 x4).1).trans x4
           have k5 := k4.nb k4.size hal5
           have T5 := hide (T4.out.below hal5)
           have U5 := hide (U4.out.below hal5)
           clear T4 U4
           obtain ⟨y5, hy5⟩ : ∃ y5, y4.alloc (.cells #[.int .i64 dd.k, .int .i64 dd.a, .slice dd.sp dd.sl dd.sc, .string dd.n, .slice dd.kp dd.kl dd.kc, .int .i64 fd.k, .int .i64 fd.a, .slice fd.sp fd.sl fd.sc, .string fd.n, .slice fd.kp fd.kl fd.kc] 26) = y5 := ⟨_, rfl⟩
           rw [hy5] at hn5 R5 r5 x5 k5 T5 U5
           have T6 := hide (tr_two (5 : Int) (d := dd) (e := fd) hn5 (⟨by omega, by omega⟩ : w.heap.size + 1 ≤ y4.heap.size ∧ y4.heap.size ≠ w1.heap.size) T5.out U5.out HDA.out)
           clear T5 U5
           obtain ⟨eq0, eq1, eq2, eq3, eq4⟩ := cells_five x5
           have eg0 := frozen_row x5 0
           have eg1 := frozen_row x5 1
           have eg2 := frozen_row x5 2
           have eg3 := frozen_row x5 3
           have eg4 := frozen_row x5 4
           have hRp := R5.putN (b := w1.heap.size) (by omega) (.int .i64 5) (.int .i64 dd.a) (.slice none 0 0) (.string ⟨#[]⟩) (.slice (some ⟨y4.heap.size, 0, none⟩) 2 2)
           have hrp2 := (putN_other (w := y5) (b := w1.heap.size) (k := w.heap.size) (v0 := .int .i64 5) (v1 := .int .i64 dd.a) (v2 := .slice none 0 0) (v3 := .string ⟨#[]⟩) (v4 := .slice (some ⟨y4.heap.size, 0, none⟩) 2 2) (by omega)).trans r5
           have hxp := putN_box (v0 := .int .i64 5) (v1 := .int .i64 dd.a) (v2 := .slice none 0 0) (v3 := .string ⟨#[]⟩) (v4 := .slice (some ⟨y4.heap.size, 0, none⟩) 2 2) x5
           have HKP := hide (putN_kp (b := w1.heap.size) (v0 := .int .i64 5) (v1 := .int .i64 dd.a) (v2 := .slice none 0 0) (v3 := .string ⟨#[]⟩) (v4 := .slice (some ⟨y4.heap.size, 0, none⟩) 2 2) k5 (by omega))
           have HTP := hide (T6.out.putN (v0 := .int .i64 5) (v1 := .int .i64 dd.a) (v2 := .slice none 0 0) (v3 := .string ⟨#[]⟩) (v4 := .slice (some ⟨y4.heap.size, 0, none⟩) 2 2) (nd_noI x5) (by rintro ⟨_, hh⟩; exact hh rfl))
           unfold putN at HTP
           unfold putN at hRp hrp2 hxp HKP
           have HRP := hide hRp
           have HXP := hide hxp
           have HRP2 := hide hrp2
           clear hRp hxp hrp2 R5 k5 r5 R4 k4 r4 R3 k3 r3 hal hal5
           go_wp2
           exact ⟨⟨j2, ⟨5, dd.a, none, 0, 0, ⟨#[]⟩, some ⟨y4.heap.size, 0, none⟩, 2, 2⟩, HXP.out, HKP.out, HRP2.out, .inl ⟨m, .mk 5 t.at_ [] [] [t, u], HRP.out, HDA, HTP, hfr.2, hide (by have := HN.out; have := HM.out; omega), HL2⟩⟩, by rw [HRP.out.m0, HM0.out]; omega⟩
         · rw [hE2] at HL2
           have HC2 := hide hc2
           clear hE2 hc2 T3
           unfold ND.v
           have hal := al1 y3 (.cells #[.int .i64 fd.k, .int .i64 fd.a, .slice fd.sp fd.sl fd.sc, .string fd.n, .slice fd.kp fd.kl fd.kc] 26)
           have hf4 := heap_alloc_new y3 (.cells #[.int .i64 fd.k, .int .i64 fd.a, .slice fd.sp fd.sl fd.sc, .string fd.n, .slice fd.kp fd.kl fd.kc] 26)
           have R4 := R3.later hal
           have r4 := (hal.block w.heap.size (Array.getElem?_eq_some_iff.1 r3).1).trans r3
           have x4 := (hal.block w1.heap.size (Array.getElem?_eq_some_iff.1 x3).1).trans x3
           have k4 := k3.nb k3.size hal
           obtain ⟨y4, hy4⟩ : ∃ y4, y3.alloc (.cells #[.int .i64 fd.k, .int .i64 fd.a, .slice fd.sp fd.sl fd.sc, .string fd.n, .slice fd.kp fd.kl fd.kc] 26) = y4 := ⟨_, rfl⟩
           rw [hy4] at hf4 R4 r4 x4 k4
           obtain ⟨m0, m1, m2, m3, m4⟩ := cells_five x4
           obtain ⟨o0, o1, o2, o3, o4⟩ := cells_five hf4
           have hy3 : w1.heap.size < y3.heap.size := (Array.getElem?_eq_some_iff.1 x3).1
           have hy4s : y3.heap.size < y4.heap.size := (Array.getElem?_eq_some_iff.1 hf4).1
           have hal5 := al1 y4 (.cells #[.int .i64 dd.k, .int .i64 dd.a, .slice dd.sp dd.sl dd.sc, .string dd.n, .slice dd.kp dd.kl dd.kc, .int .i64 fd.k, .int .i64 fd.a, .slice fd.sp fd.sl fd.sc, .string fd.n, .slice fd.kp fd.kl fd.kc] 26)
           have hn5 := heap_alloc_new y4 (.cells #[.int .i64 dd.k, .int .i64 dd.a, .slice dd.sp dd.sl dd.sc, .string dd.n, .slice dd.kp dd.kl dd.kc, .int .i64 fd.k, .int .i64 fd.a, .slice fd.sp fd.sl fd.sc, .string fd.n, .slice fd.kp fd.kl fd.kc] 26)
           have R5 := R4.later hal5
           have r5 := (hal5.block w.heap.size (Array.getElem?_eq_some_iff.1 r4).1).trans r4
           have x5 := (hal5.block w1.heap.size (Array.getElem?_eq_some_iff.1 x4).1).trans x4
           have k5 := k4.nb k4.size hal5
           obtain ⟨y5, hy5⟩ : ∃ y5, y4.alloc (.cells #[.int .i64 dd.k, .int .i64 dd.a, .slice dd.sp dd.sl dd.sc, .string dd.n, .slice dd.kp dd.kl dd.kc, .int .i64 fd.k, .int .i64 fd.a, .slice fd.sp fd.sl fd.sc, .string fd.n, .slice fd.kp fd.kl fd.kc] 26) = y5 := ⟨_, rfl⟩
           rw [hy5] at hn5 R5 r5 x5 k5
           obtain ⟨eq0, eq1, eq2, eq3, eq4⟩ := cells_five x5
           have eg0 := frozen_row x5 0
           have eg1 := frozen_row x5 1
           have eg2 := frozen_row x5 2
           have eg3 := frozen_row x5 3
           have eg4 := frozen_row x5 4
           have hRp := R5.putN (b := w1.heap.size) (by omega) (.int .i64 5) (.int .i64 dd.a) (.slice none 0 0) (.string ⟨#[]⟩) (.slice (some ⟨y4.heap.size, 0, none⟩) 2 2)
           have hrp2 := (putN_other (w := y5) (b := w1.heap.size) (k := w.heap.size) (v0 := .int .i64 5) (v1 := .int .i64 dd.a) (v2 := .slice none 0 0) (v3 := .string ⟨#[]⟩) (v4 := .slice (some ⟨y4.heap.size, 0, none⟩) 2 2) (by omega)).trans r5
           have hxp := putN_box (v0 := .int .i64 5) (v1 := .int .i64 dd.a) (v2 := .slice none 0 0) (v3 := .string ⟨#[]⟩) (v4 := .slice (some ⟨y4.heap.size, 0, none⟩) 2 2) x5
           have HKP := hide (putN_kp (b := w1.heap.size) (v0 := .int .i64 5) (v1 := .int .i64 dd.a) (v2 := .slice none 0 0) (v3 := .string ⟨#[]⟩) (v4 := .slice (some ⟨y4.heap.size, 0, none⟩) 2 2) k5 (by omega))
           unfold putN at hRp hrp2 hxp HKP
           have HRP := hide hRp
           have HXP := hide hxp
           have HRP2 := hide hrp2
           clear hRp hxp hrp2 R5 k5 r5 R4 k4 r4 R3 k3 r3 hal hal5
           go_wp2
           exact ⟨⟨j2, ⟨5, dd.a, none, 0, 0, ⟨#[]⟩, some ⟨y4.heap.size, 0, none⟩, 2, 2⟩, HXP.out, HKP.out, HRP2.out, .inr ⟨c, k, HC2, HRP.out, HL2⟩⟩, by rw [HRP.out.m1 HC2.out, HM0.out]; omega⟩
     · have HO : Hid (r = .error (c, k)) := hide (by rw [HI2.out, HL.out])
       have hcd := signQ [124] R0
       rw [decide_eq_false HC.out, Bool.false_and] at hcd
       go_wp2_with fail
       refine hcd.mono ?_
       rintro e y1 ⟨rfl, hb1⟩
       have R1 := R0.later hb1
       have r1 := (hb1.block w.heap.size (Array.getElem?_eq_some_iff.1 r0).1).trans r0
       have x1 := (hb1.block w1.heap.size (Array.getElem?_eq_some_iff.1 x0).1).trans x0
       have k1 := k0.nb k0.size hb1
       clear R0 r0 x0 k0 hb1
       clear hcd
       obtain ⟨m0, m1, m2, m3, m4⟩ := cells_five x1
       obtain ⟨fq0, fq1, fq2, fq3, fq4⟩ := cells_five r1
       have fg0 := frozen_row r1 0
       have fg1 := frozen_row r1 1
       have fg2 := frozen_row r1 2
       have fg3 := frozen_row r1 3
       have fg4 := frozen_row r1 4
       have HK := hide k1
       have HRR := hide R1
       clear k1 R1
       go_wp2
       obtain ⟨u0, u1, u2, u3, u4⟩ := cells_five (putN_box (v0 := .int .i64 dd.k) (v1 := .int .i64 dd.a) (v2 := .slice dd.sp dd.sl dd.sc) (v3 := .string dd.n) (v4 := .slice dd.kp dd.kl dd.kc) r1)
       exact bodyPost_ret (w := putN y1 w.heap.size _ _ _ _ _) (v := .agg #[.int .i64 dd.k, .int .i64 dd.a, .slice dd.sp dd.sl dd.sc, .string dd.n, .slice dd.kp dd.kl dd.kc]) (by simp [results, Tryz.results46, go_sem, u0, u1, u2, u3, u4]) rfl ⟨putN_kp HK.out (Nat.le_refl _), .inr ⟨c, k, j, dd, HO.out, HC.out, rfl, HRR.out.putN hRl _ _ _ _ _⟩⟩
 · have hr2 := hk.keep hr1 (by omega)
   have hk2 := hk1.nx (by simp) hk
   have hs1 : w.heap.size + 1 ≤ w1.heap.size := (Array.getElem?_eq_some_iff.1 hr2).1
   have HO : Hid (r = .error (c, k)) := hide (by rw [HI.out, hE])
   clear hE hk hr1 hk1 hp HI hfar h1 HQ HFR
   unfold ND.v
   have hal := al1 w1 (.cells #[.int .i64 dd.k, .int .i64 dd.a, .slice dd.sp dd.sl dd.sc, .string dd.n, .slice dd.kp dd.kl dd.kc] 26)
   have x0 := heap_alloc_new w1 (.cells #[.int .i64 dd.k, .int .i64 dd.a, .slice dd.sp dd.sl dd.sc, .string dd.n, .slice dd.kp dd.kl dd.kc] 26)
   have R0 := hR1.later hal
   have r0 := (hal.block w.heap.size (Array.getElem?_eq_some_iff.1 hr2).1).trans hr2
   have k0 := hk2.nb hk2.size hal
   obtain ⟨w2, hw2⟩ : ∃ w2, w1.alloc (.cells #[.int .i64 dd.k, .int .i64 dd.a, .slice dd.sp dd.sl dd.sc, .string dd.n, .slice dd.kp dd.kl dd.kc] 26) = w2 := ⟨_, rfl⟩
   rw [hw2] at x0 R0 r0 k0
   have HC := hide hc
   clear hal hR1 hr2 hk2 hc
   go_wp2
   go_loopw [4] (fun _ wr => wr = w2) (fun _ _ => 0)
   case atStart => rfl
   case round =>
     obtain rfl := hrel
     have hcd := signQ [124] R0
     rw [decide_eq_false HC.out, Bool.false_and] at hcd
     go_wp2_with fail
     refine hcd.mono ?_
     rintro e y1 ⟨rfl, hb1⟩
     have R1 := R0.later hb1
     have r1 := (hb1.block w.heap.size (Array.getElem?_eq_some_iff.1 r0).1).trans r0
     have x1 := (hb1.block w1.heap.size (Array.getElem?_eq_some_iff.1 x0).1).trans x0
     have k1 := k0.nb k0.size hb1
     clear R0 r0 x0 k0 hb1
     clear hcd
     obtain ⟨m0, m1, m2, m3, m4⟩ := cells_five x1
     obtain ⟨fq0, fq1, fq2, fq3, fq4⟩ := cells_five r1
     have fg0 := frozen_row r1 0
     have fg1 := frozen_row r1 1
     have fg2 := frozen_row r1 2
     have fg3 := frozen_row r1 3
     have fg4 := frozen_row r1 4
     have HK := hide k1
     have HRR := hide R1
     clear k1 R1
     go_wp2
     obtain ⟨u0, u1, u2, u3, u4⟩ := cells_five (putN_box (v0 := .int .i64 dd.k) (v1 := .int .i64 dd.a) (v2 := .slice dd.sp dd.sl dd.sc) (v3 := .string dd.n) (v4 := .slice dd.kp dd.kl dd.kc) r1)
     exact bodyPost_ret (w := putN y1 w.heap.size _ _ _ _ _) (v := .agg #[.int .i64 dd.k, .int .i64 dd.a, .slice dd.sp dd.sl dd.sc, .string dd.n, .slice dd.kp dd.kl dd.kc]) (by simp [results, Tryz.results46, go_sem, u0, u1, u2, u3, u4]) rfl ⟨putN_kp HK.out (Nat.le_refl _), .inr ⟨c, k, j, dd, HO.out, HC.out, rfl, HRR.out.putN hRl _ _ _ _ _⟩⟩
theorem caltQ : ∀ d, CAltQ d
 | 0 => fun _ _ _ _ _ _ _ _ h hl hg hd => altQ 0 (fun d' e => by cases e) h hl hg hd
 | d + 1 => fun _ _ _ _ _ _ _ _ h hl hg hd => altQ (d + 1) (fun d' e => by cases e; exact caltQ d) h hl hg hd
end Go.Proofs.YtamhjnemmdcniaaGreatDoor
/- The reference's Read. -/
namespace Go.Proofs.YtamhjnemmdcniaaGreatDoor
open Go.RowKit
open E (T tk isS rpt beg)
def AnsRQ (r : E.Res) (w : World) (e : Ending) (w' : World) : Prop :=
 Below w.heap.size w w' ∧ ((∃ t j v, r = .ok (t, j) ∧ e = .returned (.tuple #[v, .int .i64 (j : Int), .int .i64 0]) ∧ TR w' (fun b => w.heap.size ≤ b) t v) ∨
   ∃ c j : Nat, r = .error (c, j) ∧ c ≠ 0 ∧ e = .returned (.tuple #[zN, .int .i64 (j : Int), .int .i64 (c : Int)]))
set_option maxRecDepth 100000 in
set_option maxHeartbeats 4000000 in
theorem readQ (ao : Option Addr) (cap : Nat) (l : List E.Tok) (i : Nat) (hl : l.length ≤ 40000) (hg : E.Good l) (w : World) (hr : RdK w ao l) (hlo : ∀ b off, ao = some ⟨b, off, none⟩ → b < w.heap.size) :
   Calls Tryz.prog 24 #[.slice ao l.length cap, .int .i64 (i : Int)] w (AnsRQ (E.alt 20 l i) w) := by
 have hb1 := al1 w roomN
 have hb2 := al1 (w.alloc roomN) (.cells #[.slice ao l.length cap, .int .i64 (i : Int), .int .i64 0, .int .i64 0, .int .i64 0] 81)
 have hB := nx hb1 hb2
 have hR : Rq ((w.alloc roomN).alloc (.cells #[.slice ao l.length cap, .int .i64 (i : Int), .int .i64 0, .int .i64 0, .int .i64 0] 81)) (w.heap.size + 1) ao cap l i 0 0 0 :=
   ⟨by have := heap_alloc_new (w.alloc roomN) (.cells #[.slice ao l.length cap, .int .i64 (i : Int), .int .i64 0, .int .i64 0, .int .i64 0] 81); simpa using this, hr.later hB, fun b off e => by have := hlo b off e; omega⟩
 have hr0 : ((w.alloc roomN).alloc (.cells #[.slice ao l.length cap, .int .i64 (i : Int), .int .i64 0, .int .i64 0, .int .i64 0] 81)).heap[w.heap.size]? = some roomN := (hb2.block w.heap.size (by simp)).trans (heap_alloc_new w _)
 obtain ⟨w1, hw1⟩ : ∃ w1, (w.alloc roomN).alloc (.cells #[.slice ao l.length cap, .int .i64 (i : Int), .int .i64 0, .int .i64 0, .int .i64 0] 81) = w1 := ⟨_, rfl⟩
 have hsz : w1.heap.size = w.heap.size + 2 := by rw [← hw1]; simp
 rw [hw1] at hB hR hr0
 have hcall := caltQ 20 w1 (w.heap.size + 1) ao cap l i 0 0 hR hl hg rfl
 have HSZ := hide hsz
 have HI : Hid (E.alt 20 l i = E.alt 20 l i) := hide rfl
 generalize E.alt 20 l i = r at *
 have HW := hide hw1
 clear hb1 hb2 hsz hw1
 go_enter Tryz.func24, Tryz.ntmps24
 go_wp2_with fail
 rw [HW.out]
 refine hcall.mono ?_
 rintro e w2 ⟨hk, ⟨t, j, v, rfl, rfl, htr, hR2⟩ | ⟨c, j, j9, dd, rfl, hc, rfl, hR2⟩⟩
 · have hr2 := hk.keep hr0 (by omega)
   have hB2 := hB.trans ((hk.mono (by have := HSZ.out; omega : w.heap.size ≤ w1.heap.size)).below (by omega))
   have htr := TR.mono (ok' := fun b => w.heap.size + 1 ≤ b) (fun b _ hb' => by have := HSZ.out; omega) t htr
   obtain ⟨dd, rfl, hdk, hda⟩ := htr.nd
   clear hdk hda hk hr0 hcall hR hB
   unfold ND.v at htr ⊢
   have hal := al1 w2 (.cells #[.int .i64 dd.k, .int .i64 dd.a, .slice dd.sp dd.sl dd.sc, .string dd.n, .slice dd.kp dd.kl dd.kc] 26)
   have hx8 := heap_alloc_new w2 (.cells #[.int .i64 dd.k, .int .i64 dd.a, .slice dd.sp dd.sl dd.sc, .string dd.n, .slice dd.kp dd.kl dd.kc] 26)
   have hR3 := hR2.later hal
   have hr3 := (hal.block w.heap.size (Array.getElem?_eq_some_iff.1 hr2).1).trans hr2
   have hB3 := nx hB2 hal
   have HT3 := hide (htr.below hal)
   obtain ⟨w3, hw3⟩ : ∃ w3, w2.alloc (.cells #[.int .i64 dd.k, .int .i64 dd.a, .slice dd.sp dd.sl dd.sc, .string dd.n, .slice dd.kp dd.kl dd.kc] 26) = w3 := ⟨_, rfl⟩
   rw [hw3] at hx8 hR3 hr3 hB3 HT3
   clear hal hR2 hr2 hB2 htr
   obtain ⟨c0, c1, c2, c3, c4⟩ := hR3.cells
   obtain ⟨m0, m1, m2, m3, m4⟩ := cells_five hx8
   obtain ⟨q0, q1, q2, q3, q4⟩ := cells_five hr3
   have g0 := frozen_row hr3 0
   have g1 := frozen_row hr3 1
   have g2 := frozen_row hr3 2
   have g3 := frozen_row hr3 3
   have g4 := frozen_row hr3 4
   have HB := hide hB3
   clear hB3
   go_wp2_with fail
   go_region
   obtain ⟨u0, u1, u2, u3, u4⟩ := cells_five (putN_box (v0 := .int .i64 dd.k) (v1 := .int .i64 dd.a) (v2 := .slice dd.sp dd.sl dd.sc) (v3 := .string dd.n) (v4 := .slice dd.kp dd.kl dd.kc) hr3)
   have HTP := hide (HT3.out.putN (v0 := .int .i64 dd.k) (v1 := .int .i64 dd.a) (v2 := .slice dd.sp dd.sl dd.sc) (v3 := .string dd.n) (v4 := .slice dd.kp dd.kl dd.kc) (roomN_noI hr3) (by show ¬ w.heap.size + 1 ≤ w.heap.size; omega))
   have HBP := hide (putN_below (b := w.heap.size) (v0 := .int .i64 dd.k) (v1 := .int .i64 dd.a) (v2 := .slice dd.sp dd.sl dd.sc) (v3 := .string dd.n) (v4 := .slice dd.kp dd.kl dd.kc) HB.out (Nat.le_refl _))
   unfold putN at u0 u1 u2 u3 u4 HTP HBP
   obtain ⟨w4, hw4⟩ : ∃ w4, ((((w3.setCell ⟨w.heap.size, 0, none⟩ (.int .i64 dd.k)).setCell ⟨w.heap.size, 1, none⟩ (.int .i64 dd.a)).setCell ⟨w.heap.size, 2, none⟩ (.slice dd.sp dd.sl dd.sc)).setCell ⟨w.heap.size, 3, none⟩ (.string dd.n)).setCell ⟨w.heap.size, 4, none⟩ (.slice dd.kp dd.kl dd.kc) = w4 := ⟨_, rfl⟩
   rw [hw4] at u0 u1 u2 u3 u4 HTP HBP ⊢
   clear hw4
   go_wp2
   exact bodyPost_ret (v := .tuple #[.agg #[.int .i64 dd.k, .int .i64 dd.a, .slice dd.sp dd.sl dd.sc, .string dd.n, .slice dd.kp dd.kl dd.kc], .int .i64 (j : Int), .int .i64 0]) (by simp [results, Tryz.results24, go_sem, u0, u1, u2, u3, u4]) rfl ⟨HBP.out.drew, .inl ⟨t, j, _, rfl, rfl, TR.mono (fun b _ hb => by show w.heap.size ≤ b; omega) _ (TR.later (w := w4) (W := w4.drew) (fun _ _ => rfl) _ HTP.out)⟩⟩
 · have hr2 := hk.keep hr0 (by omega)
   have hB2 := hB.trans ((hk.mono (by have := HSZ.out; omega : w.heap.size ≤ w1.heap.size)).below (by omega))
   clear hk hr0 hcall hR hB
   unfold ND.v
   have hal := al1 w2 (.cells #[.int .i64 dd.k, .int .i64 dd.a, .slice dd.sp dd.sl dd.sc, .string dd.n, .slice dd.kp dd.kl dd.kc] 26)
   have hR3 := hR2.later hal
   have hr3 := (hal.block w.heap.size (Array.getElem?_eq_some_iff.1 hr2).1).trans hr2
   have hB3 := nx hB2 hal
   obtain ⟨w3, hw3⟩ : ∃ w3, w2.alloc (.cells #[.int .i64 dd.k, .int .i64 dd.a, .slice dd.sp dd.sl dd.sc, .string dd.n, .slice dd.kp dd.kl dd.kc] 26) = w3 := ⟨_, rfl⟩
   rw [hw3] at hR3 hr3 hB3
   clear hal hR2 hr2 hB2
   obtain ⟨c0, c1, c2, c3, c4⟩ := hR3.cells
   obtain ⟨q0, q1, q2, q3, q4⟩ := cells_five hr3
   have g0 := frozen_row hr3 0
   have g1 := frozen_row hr3 1
   have g2 := frozen_row hr3 2
   have g3 := frozen_row hr3 3
   have g4 := frozen_row hr3 4
   have HB := hide hB3
   clear hB3
   have e1 : ((c : Int) != 0) = true := by simp; omega
   have hneR : ¬ w.heap.size + 1 = w.heap.size := by omega
   have hRlt : w.heap.size + 1 < w3.heap.size := hR3.lt
   go_wp2_with fail
   go_region
   obtain ⟨u0, u1, u2, u3, u4⟩ := cells_five (putN_box (v0 := .int .i64 0) (v1 := .int .i64 0) (v2 := .slice none 0 0) (v3 := .string ⟨#[]⟩) (v4 := .slice none 0 0) hr3)
   have HBP := hide (putN_below (b := w.heap.size) (v0 := .int .i64 0) (v1 := .int .i64 0) (v2 := .slice none 0 0) (v3 := .string ⟨#[]⟩) (v4 := .slice none 0 0) HB.out (Nat.le_refl _))
   unfold putN at u0 u1 u2 u3 u4 HBP
   obtain ⟨w4, hw4⟩ : ∃ w4, ((((w3.setCell ⟨w.heap.size, 0, none⟩ (.int .i64 0)).setCell ⟨w.heap.size, 1, none⟩ (.int .i64 0)).setCell ⟨w.heap.size, 2, none⟩ (.slice none 0 0)).setCell ⟨w.heap.size, 3, none⟩ (.string ⟨#[]⟩)).setCell ⟨w.heap.size, 4, none⟩ (.slice none 0 0) = w4 := ⟨_, rfl⟩
   rw [hw4] at u0 u1 u2 u3 u4 HBP ⊢
   clear hw4
   have HC := hide hc
   clear hc
   go_wp2
   exact bodyPost_ret (v := .tuple #[zN, .int .i64 (j : Int), .int .i64 (c : Int)]) (by unfold zN; simp [results, Tryz.results24, go_sem, u0, u1, u2, u3, u4]) rfl ⟨HBP.out.drew, .inr ⟨c, j, rfl, HC.out, rfl⟩⟩
end Go.Proofs.YtamhjnemmdcniaaGreatDoor
