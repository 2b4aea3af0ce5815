/- Parse of regex. -/
import Derived.Test.YtemanednddhfaaaGreatDoorRea
import Derived.Test.YtemanednddhfaaaGreatDoorJH
namespace Go.Proofs.YtemanednddhfaaaGreatDoor
open Go.RowKit
open E (T tk isS rpt beg)
namespace E
noncomputable def parse (s : List UInt8) : Except (Nat × Nat) T :=
 match X.scan 0 s with
 | .error k => .error (60, k)
 | .ok l => match alt 20 l 0 with
   | .error (c, j) => .error (c, (tk l j).2)
   | .ok (t, j) => if (tk l j).1.kind = 0 then .ok t else .error (70, (tk l j).2)
end E
def AnsP (r : Except (Nat × Nat) T) (w : World) (e : Ending) (w' : World) : Prop :=
 Below w.heap.size w w' ∧ ((∃ t v, r = .ok t ∧ e = .returned (.tuple #[v, .int .i64 0, .int .i64 0]) ∧ TR w' (fun b => w.heap.size ≤ b) t v) ∨
   ∃ c k : Nat, r = .error (c, k) ∧ e = .returned (.tuple #[zN, .int .i64 (k : Int), .int .i64 (c : Int)]) ∧ (((c : Int) != 0) = true))
theorem ownK_lt {w : World} {B : Nat} {ao : Option Addr} {n cap : Nat} {l : List E.Tok} (h : OwnK w B (.slice ao n cap) l) : ∀ b off, ao = some ⟨b, off, none⟩ → b < w.heap.size := by
 rintro b off rfl
 exact (World.ownsRow.lt h b rfl).2
theorem scan_good {s : List UInt8} {l : List E.Tok} (h : X.scan 0 s = .ok l) (hs : s.length ≤ 39999) (hx : ∀ x ∈ l, x.1.kind ≠ 5 ∧ isS x [91] = false ∧ isS x [46] = false) : l.length ≤ 40000 ∧ E.Good l := by
 have := X.scan_sizes 0 s l h
 exact ⟨by omega, fun x hm => ⟨by have := this.2 x hm; omega, hx x hm⟩⟩
set_option maxRecDepth 100000 in
set_option maxHeartbeats 4000000 in
theorem parse_big (s : ByteArray) (hs : s.size ≤ 99999) (hL : ∀ l, X.scan 0 (bts s) = .ok l → l.length ≤ 40000 ∧ E.Good l) (w : World) (ht : Tabs w) : Calls Tryz.prog 11 #[.string s] w (AnsP (E.parse (bts s)) w) := by
 have h0 := al1 w roomN
 have hr0 := heap_alloc_new w roomN
 obtain ⟨w0, hw0⟩ : ∃ w0, w.alloc roomN = w0 := ⟨_, rfl⟩
 rw [hw0] at h0 hr0
 have hsc := scan_lex s (by omega) w0 (ht.later h0)
 have HG := hide hL
 clear hL
 have HP : Hid (E.parse (bts s) = _) := hide (by unfold E.parse; rfl)
 generalize E.parse (bts s) = r at *
 generalize X.scan 0 (bts s) = sr at *
 go_enter Tryz.func11, Tryz.ntmps11
 go_wp2_with fail
 refine hsc.mono ?_
 rintro e w1 ⟨⟨l, v, rfl, rfl, hown⟩ | ⟨at_, rfl, rfl⟩, hb1⟩
 · have hB1 := nx h0 hb1
   have hr1 := (hb1.block w.heap.size (Array.getElem?_eq_some_iff.1 hr0).1).trans hr0
   have hg := HG.out l rfl
   obtain ⟨ap, cp, rfl, _, _, hrk⟩ := hown.rd
   have hrd := read_any ap cp l 0 hg.1 hg.2 w1 hrk (ownK_lt hown)
   have HO1 : Hid (r = match E.alt 20 l 0 with | .error (c, j) => .error (c, (tk l j).2) | .ok (t, j) => if (tk l j).1.kind = 0 then .ok t else .error (70, (tk l j).2)) := hide HP.out
   clear HP HG hown hsc hr0 h0 hg
   generalize E.alt 20 l 0 = ra at *
   go_wp2_with fail
   refine hrd.mono ?_
   rintro e w2 ⟨hb2, ⟨t, j, v, rfl, rfl, htr⟩ | ⟨c, j, rfl, rfl, hc⟩⟩
   · have hB2 := nx hB1 hb2
     have hr2 := (hb2.block w.heap.size (Array.getElem?_eq_some_iff.1 hr1).1).trans hr1
     have hrk2 := hrk.later hb2
     have hs1 : w.heap.size + 1 ≤ w1.heap.size := (Array.getElem?_eq_some_iff.1 hr1).1
     have HT := hide (TR.mono (ok' := fun b => w.heap.size + 1 ≤ b) (fun b _ hb => Nat.le_trans hs1 hb) t htr)
     obtain ⟨dd, rfl, hdk, hda⟩ := htr.nd
     have HO0 : Hid (r = if (tk l j).1.kind = 0 then .ok t else .error (70, (tk l j).2)) := hide HO1.out
     clear hdk hda htr hb2 hr1 hB1 hrk hrd HO1
     unfold ND.v at HT ⊢
     have hal8 := al1 w2 (.cells #[.int .i64 dd.k, .int .i64 dd.a, .slice dd.sp dd.sl dd.sc, .string dd.n, .slice dd.kp dd.kl dd.kc] 26)
     have hB8 := nx hB2 hal8
     have hr8 := (hal8.block w.heap.size (Array.getElem?_eq_some_iff.1 hr2).1).trans hr2
     have hx8 := heap_alloc_new w2 (.cells #[.int .i64 dd.k, .int .i64 dd.a, .slice dd.sp dd.sl dd.sc, .string dd.n, .slice dd.kp dd.kl dd.kc] 26)
     have hrk8 := hrk2.later hal8
     have HT8 := hide (HT.out.below hal8)
     obtain ⟨w3, hw3⟩ : ∃ w3, w2.alloc (.cells #[.int .i64 dd.k, .int .i64 dd.a, .slice dd.sp dd.sl dd.sc, .string dd.n, .slice dd.kp dd.kl dd.kc] 26) = w3 := ⟨_, rfl⟩
     rw [hw3] at hB8 hr8 hx8 hrk8 HT8
     have hsg := signAt_any ap cp l j w3 hrk8
     obtain ⟨tj, htj⟩ : ∃ tj, tk l j = tj := ⟨_, rfl⟩
     rw [htj] at hsg HO0
     unfold tokV at hsg
     clear hB2 hr2 hrk2 hal8 htj
     go_wp2_with fail
     refine hsg.mono ?_
     rintro e w3b ⟨rfl, hb⟩
     have hB3b := nx hB8 hb
     have hr3b := (hb.block w.heap.size (Array.getElem?_eq_some_iff.1 hr8).1).trans hr8
     have hal := al1 w3b (.cells #[.int .i64 (tj.1.kind : Int), .int .i64 (tj.2 : Int), .string ⟨tj.1.text.toArray⟩, .int .i32 tj.1.r] 79)
     have hx10 := heap_alloc_new w3b (.cells #[.int .i64 (tj.1.kind : Int), .int .i64 (tj.2 : Int), .string ⟨tj.1.text.toArray⟩, .int .i32 tj.1.r] 79)
     have hb2 := nx hb hal
     have hB4 := nx hB8 hb2
     have hr4 := (hb2.block w.heap.size (Array.getElem?_eq_some_iff.1 hr8).1).trans hr8
     have hx9 := (hb2.block w2.heap.size (Array.getElem?_eq_some_iff.1 hx8).1).trans hx8
     have HT9 := hide (HT8.out.below hb2)
     obtain ⟨w4, hw4⟩ : ∃ w4, w3b.alloc (.cells #[.int .i64 (tj.1.kind : Int), .int .i64 (tj.2 : Int), .string ⟨tj.1.text.toArray⟩, .int .i32 tj.1.r] 79) = w4 := ⟨_, rfl⟩
     rw [hw4] at hx10 hB4 hr4 hx9 HT9
     clear hb hal hb2 hB8 hr8 hx8 hrk8 HT8 HT hsg
     by_cases hk0 : tj.1.kind = 0
     · have e0 : ((tj.1.kind : Int) != 0) = false := by simp [hk0]
       rw [if_pos hk0] at HO0
       clear hk0
       obtain ⟨q10, q11, q12, q13⟩ := cells_four hx10
       obtain ⟨m0, m1, m2, m3, m4⟩ := cells_five hx9
       obtain ⟨q0, q1, q2, q3, q4⟩ := cells_five hr4
       have g0 := frozen_row hr4 0
       have g1 := frozen_row hr4 1
       have g2 := frozen_row hr4 2
       have g3 := frozen_row hr4 3
       have g4 := frozen_row hr4 4
       have HB := hide hB4
       clear hB4
       go_wp2
       obtain ⟨u0, u1, u2, u3, u4⟩ := cells_five (putN_box (v0 := .int .i64 dd.k) (v1 := .int .i64 dd.a) (v2 := .slice dd.sp dd.sl dd.sc) (v3 := .string dd.n) (v4 := .slice dd.kp dd.kl dd.kc) hr4)
       exact bodyPost_ret (w := putN w4 w.heap.size _ _ _ _ _) (v := .tuple #[.agg #[.int .i64 dd.k, .int .i64 dd.a, .slice dd.sp dd.sl dd.sc, .string dd.n, .slice dd.kp dd.kl dd.kc], .int .i64 0, .int .i64 0]) (by simp [results, Tryz.results11, go_sem, u0, u1, u2, u3, u4]) rfl ⟨putN_below HB.out (Nat.le_refl _), .inl ⟨t, _, HO0.out, rfl, TR.mono (fun b _ hb => by show w.heap.size ≤ b; omega) _ (HT9.out.putN (roomN_noI hr4) (by show ¬ w.heap.size + 1 ≤ w.heap.size; omega))⟩⟩
     · have e0 : ((tj.1.kind : Int) != 0) = true := by simp; omega
       rw [if_neg hk0] at HO0
       clear hk0
       have HCC : ((((70 : Nat) : Int)) != 0) = true := rfl
       obtain ⟨q10, q11, q12, q13⟩ := cells_four hx10
       have hne1 : ¬ w.heap.size = w3b.heap.size := by have := hB3b.size; have := (Array.getElem?_eq_some_iff.1 hr3b).1; omega
       have hne2 : ¬ w3b.heap.size = w.heap.size := fun e => hne1 e.symm
       obtain ⟨q0, q1, q2, q3, q4⟩ := cells_five hr4
       have g0 := frozen_row hr4 0
       have g1 := frozen_row hr4 1
       have g2 := frozen_row hr4 2
       have g3 := frozen_row hr4 3
       have g4 := frozen_row hr4 4
       have HB := hide hB4
       clear hB4
       go_wp2_with fail
       go_region
       obtain ⟨u0, u1, u2, u3, u4⟩ := cells_five (putN_box (v0 := .int .i64 0) (v1 := .int .i64 0) (v2 := .slice none 0 0) (v3 := .string ⟨#[]⟩) (v4 := .slice none 0 0) hr4)
       have HBP := hide (putN_below (b := w.heap.size) (v0 := .int .i64 0) (v1 := .int .i64 0) (v2 := .slice none 0 0) (v3 := .string ⟨#[]⟩) (v4 := .slice none 0 0) HB.out (Nat.le_refl _))
       unfold putN at u0 u1 u2 u3 u4 HBP
       obtain ⟨w5, hw5⟩ : ∃ w5, ((((w4.setCell ⟨w.heap.size, 0, none⟩ (.int .i64 0)).setCell ⟨w.heap.size, 1, none⟩ (.int .i64 0)).setCell ⟨w.heap.size, 2, none⟩ (.slice none 0 0)).setCell ⟨w.heap.size, 3, none⟩ (.string ⟨#[]⟩)).setCell ⟨w.heap.size, 4, none⟩ (.slice none 0 0) = w5 := ⟨_, rfl⟩
       rw [hw5] at u0 u1 u2 u3 u4 HBP ⊢
       clear hw5
       go_wp2
       exact bodyPost_ret (v := .tuple #[zN, .int .i64 (tj.2 : Int), .int .i64 (70 : Int)]) (by unfold zN; simp [results, Tryz.results11, go_sem, u0, u1, u2, u3, u4]) rfl ⟨HBP.out.drew, .inr ⟨70, tj.2, HO0.out, rfl, HCC⟩⟩
   · have hB2 := nx hB1 hb2
     have hr2 := (hb2.block w.heap.size (Array.getElem?_eq_some_iff.1 hr1).1).trans hr1
     have hrk2 := hrk.later hb2
     have HO0 : Hid (r = .error (c, (tk l j).2)) := hide HO1.out
     have HCC := hc
     have ec : ((c : Int) == 0) = false := by simpa using hc
     clear hb2 hr1 hB1 hrk hrd HO1
     unfold zN
     have hal8 := al1 w2 (.cells #[.int .i64 0, .int .i64 0, .slice none 0 0, .string ⟨#[]⟩, .slice none 0 0] 26)
     have hB8 := nx hB2 hal8
     have hr8 := (hal8.block w.heap.size (Array.getElem?_eq_some_iff.1 hr2).1).trans hr2
     have hx8 := heap_alloc_new w2 (.cells #[.int .i64 0, .int .i64 0, .slice none 0 0, .string ⟨#[]⟩, .slice none 0 0] 26)
     have hrk8 := hrk2.later hal8
     obtain ⟨w3, hw3⟩ : ∃ w3, w2.alloc (.cells #[.int .i64 0, .int .i64 0, .slice none 0 0, .string ⟨#[]⟩, .slice none 0 0] 26) = w3 := ⟨_, rfl⟩
     rw [hw3] at hB8 hr8 hx8 hrk8
     have HW3 := hide hw3
     clear hw3
     have hsg := signAt_any ap cp l j w3 hrk8
     obtain ⟨tj, htj⟩ : ∃ tj, tk l j = tj := ⟨_, rfl⟩
     rw [htj] at hsg HO0
     unfold tokV at hsg
     clear hB2 hr2 hrk2 hal8 htj
     go_wp2_with fail
     rw [HW3.out]
     refine hsg.mono ?_
     rintro e w3b ⟨rfl, hb⟩
     have hB3b := nx hB8 hb
     have hr3b := (hb.block w.heap.size (Array.getElem?_eq_some_iff.1 hr8).1).trans hr8
     have hal := al1 w3b (.cells #[.int .i64 (tj.1.kind : Int), .int .i64 (tj.2 : Int), .string ⟨tj.1.text.toArray⟩, .int .i32 tj.1.r] 79)
     have hx10 := heap_alloc_new w3b (.cells #[.int .i64 (tj.1.kind : Int), .int .i64 (tj.2 : Int), .string ⟨tj.1.text.toArray⟩, .int .i32 tj.1.r] 79)
     have hb2 := nx hb hal
     have hB4 := nx hB8 hb2
     have hr4 := (hb2.block w.heap.size (Array.getElem?_eq_some_iff.1 hr8).1).trans hr8
     have hx9 := (hb2.block w2.heap.size (Array.getElem?_eq_some_iff.1 hx8).1).trans hx8
     obtain ⟨w4, hw4⟩ : ∃ w4, w3b.alloc (.cells #[.int .i64 (tj.1.kind : Int), .int .i64 (tj.2 : Int), .string ⟨tj.1.text.toArray⟩, .int .i32 tj.1.r] 79) = w4 := ⟨_, rfl⟩
     rw [hw4] at hx10 hB4 hr4
     clear hb hal hb2 hB8 hr8 hx8 hrk8 hsg hx9
     obtain ⟨q10, q11, q12, q13⟩ := cells_four hx10
     have hne1 : ¬ w.heap.size = w3b.heap.size := by have := hB3b.size; have := (Array.getElem?_eq_some_iff.1 hr3b).1; omega
     have hne2 : ¬ w3b.heap.size = w.heap.size := fun e => hne1 e.symm
     obtain ⟨q0, q1, q2, q3, q4⟩ := cells_five hr4
     have g0 := frozen_row hr4 0
     have g1 := frozen_row hr4 1
     have g2 := frozen_row hr4 2
     have g3 := frozen_row hr4 3
     have g4 := frozen_row hr4 4
     have HB := hide hB4
     clear hB4
     go_wp2_with fail
     go_region
     obtain ⟨u0, u1, u2, u3, u4⟩ := cells_five (putN_box (v0 := .int .i64 0) (v1 := .int .i64 0) (v2 := .slice none 0 0) (v3 := .string ⟨#[]⟩) (v4 := .slice none 0 0) hr4)
     have HBP := hide (putN_below (b := w.heap.size) (v0 := .int .i64 0) (v1 := .int .i64 0) (v2 := .slice none 0 0) (v3 := .string ⟨#[]⟩) (v4 := .slice none 0 0) HB.out (Nat.le_refl _))
     unfold putN at u0 u1 u2 u3 u4 HBP
     obtain ⟨w5, hw5⟩ : ∃ w5, ((((w4.setCell ⟨w.heap.size, 0, none⟩ (.int .i64 0)).setCell ⟨w.heap.size, 1, none⟩ (.int .i64 0)).setCell ⟨w.heap.size, 2, none⟩ (.slice none 0 0)).setCell ⟨w.heap.size, 3, none⟩ (.string ⟨#[]⟩)).setCell ⟨w.heap.size, 4, none⟩ (.slice none 0 0) = w5 := ⟨_, rfl⟩
     rw [hw5] at u0 u1 u2 u3 u4 HBP ⊢
     clear hw5
     go_wp2
     exact bodyPost_ret (v := .tuple #[zN, .int .i64 (tj.2 : Int), .int .i64 (c : Int)]) (by unfold zN; simp [results, Tryz.results11, go_sem, u0, u1, u2, u3, u4]) rfl ⟨HBP.out.drew, .inr ⟨c, tj.2, HO0.out, rfl, HCC⟩⟩
 · have hB1 := nx h0 hb1
   have hr1 := (hb1.block w.heap.size (Array.getElem?_eq_some_iff.1 hr0).1).trans hr0
   have HO : Hid (r = .error (60, at_)) := hide HP.out
   clear HP HG hsc hr0 h0
   have HCC : ((((60 : Nat) : Int)) != 0) = true := rfl
   obtain ⟨q0, q1, q2, q3, q4⟩ := cells_five hr1
   have g0 := frozen_row hr1 0
   have g1 := frozen_row hr1 1
   have g2 := frozen_row hr1 2
   have g3 := frozen_row hr1 3
   have g4 := frozen_row hr1 4
   have HB := hide hB1
   clear hB1
   go_wp2
   obtain ⟨u0, u1, u2, u3, u4⟩ := cells_five (putN_box (v0 := .int .i64 0) (v1 := .int .i64 0) (v2 := .slice none 0 0) (v3 := .string ⟨#[]⟩) (v4 := .slice none 0 0) hr1)
   exact bodyPost_ret (w := putN w1 w.heap.size _ _ _ _ _) (v := .tuple #[zN, .int .i64 (at_ : Int), .int .i64 60]) (by unfold zN; simp [results, Tryz.results11, go_sem, u0, u1, u2, u3, u4]) rfl ⟨putN_below HB.out (Nat.le_refl _), .inr ⟨60, at_, HO.out, rfl, HCC⟩⟩
theorem parse_light (s : ByteArray) (hs : s.size ≤ 39999) (hx : ∀ l, X.scan 0 (bts s) = .ok l → ∀ x ∈ l, x.1.kind ≠ 5 ∧ isS x [91] = false ∧ isS x [46] = false) (w : World) (ht : Tabs w) : Calls Tryz.prog 11 #[.string s] w (AnsP (E.parse (bts s)) w) :=
 parse_big s (by omega) (fun l h => scan_good h (by rw [bts_len]; exact hs) (hx l h)) w ht
end Go.Proofs.YtemanednddhfaaaGreatDoor
