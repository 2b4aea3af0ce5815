/- Joined: Par UIs. -/
import Derived.Test.YtgngaldoemopjaaGreatDoorFRea
import Derived.Test.YtgngaldoemopjaaGreatDoorFJH
import Derived.Test.YtgngaldoemopjaaGreatDoorFSqr
namespace Go.Proofs.YtgngaldoemopjaaGreatDoor
open Go.RowKit
open E (T tk isS rpt beg)
namespace E
noncomputable def parse (s : List UInt8) : Except (Nat × Nat) T :=
 match X.scan 0 s with
 | .error k => .error (60, k)
 | .ok l => match alt 20 l 0 with
   | .error (c, j) => .error (c, (tk l j).2)
   | .ok (t, j) => if (tk l j).1.kind = 0 then .ok t else .error (70, (tk l j).2)
end E
def AnsP (r : Except (Nat × Nat) T) (w : World) (e : Ending) (w' : World) : Prop :=
 Below w.heap.size w w' ∧ ((∃ t v, r = .ok t ∧ e = .returned (.tuple #[v, .int .i64 0, .int .i64 0]) ∧ TR w' (fun b => w.heap.size ≤ b) t v) ∨
   ∃ c k : Nat, r = .error (c, k) ∧ e = .returned (.tuple #[zN, .int .i64 (k : Int), .int .i64 (c : Int)]) ∧ (((c : Int) != 0) = true))
theorem ownK_lt {w : World} {B : Nat} {ao : Option Addr} {n cap : Nat} {l : List E.Tok} (h : OwnK w B (.slice ao n cap) l) : ∀ b off, ao = some ⟨b, off, none⟩ → b < w.heap.size := by
 rintro b off rfl
 exact (World.ownsRow.lt h b rfl).2
theorem scan_good {s : List UInt8} {l : List E.Tok} (h : X.scan 0 s = .ok l) (hs : s.length ≤ 39999) (hx : ∀ x ∈ l, x.1.kind ≠ 5 ∧ isS x [91] = false ∧ isS x [46] = false) : l.length ≤ 40000 ∧ E.Good l := by
 have := X.scan_sizes 0 s l h
 exact ⟨by omega, fun x hm => ⟨by have := this.2 x hm; omega, hx x hm⟩⟩
set_option maxRecDepth 100000 in
set_option maxHeartbeats 4000000 in
theorem parse_big (s : ByteArray) (hs : s.size ≤ 99999) (hL : ∀ l, X.scan 0 (bts s) = .ok l → l.length ≤ 40000 ∧ E.Good l) (w : World) (ht : Tabs w) : Calls Tryz.prog 27 #[.string s] w (AnsP (E.parse (bts s)) w) := by
 have h0 := al1 w roomN
 have hr0 := heap_alloc_new w roomN
 obtain ⟨w0, hw0⟩ : ∃ w0, w.alloc roomN = w0 := ⟨_, rfl⟩
 rw [hw0] at h0 hr0
 have hsc := scan_lex s (by omega) w0 (ht.later h0)
 have HG := hide hL
 clear hL
 have HP : Hid (E.parse (bts s) = _) := hide (by unfold E.parse; rfl)
 generalize E.parse (bts s) = r at *
 generalize X.scan 0 (bts s) = sr at *
 go_enter Tryz.func27, Tryz.ntmps27
 go_wp2_with fail
 refine hsc.mono ?_
 rintro e w1 ⟨⟨l, v, rfl, rfl, hown⟩ | ⟨at_, rfl, rfl⟩, hb1⟩
 · have hB1 := nx h0 hb1
   have hr1 := (hb1.block w.heap.size (Array.getElem?_eq_some_iff.1 hr0).1).trans hr0
   have hg := HG.out l rfl
   obtain ⟨ap, cp, rfl, _, _, hrk⟩ := hown.rd
   have hrd := read_any ap cp l 0 hg.1 hg.2 w1 hrk (ownK_lt hown)
   have HO1 : Hid (r = match E.alt 20 l 0 with | .error (c, j) => .error (c, (tk l j).2) | .ok (t, j) => if (tk l j).1.kind = 0 then .ok t else .error (70, (tk l j).2)) := hide HP.out
   clear HP HG hown hsc hr0 h0 hg
   generalize E.alt 20 l 0 = ra at *
   go_wp2_with fail
   refine hrd.mono ?_
   rintro e w2 ⟨hb2, ⟨t, j, v, rfl, rfl, htr⟩ | ⟨c, j, rfl, rfl, hc⟩⟩
   · have hB2 := nx hB1 hb2
     have hr2 := (hb2.block w.heap.size (Array.getElem?_eq_some_iff.1 hr1).1).trans hr1
     have hrk2 := hrk.later hb2
     have hs1 : w.heap.size + 1 ≤ w1.heap.size := (Array.getElem?_eq_some_iff.1 hr1).1
     have HT := hide (TR.mono (ok' := fun b => w.heap.size + 1 ≤ b) (fun b _ hb => Nat.le_trans hs1 hb) t htr)
     obtain ⟨dd, rfl, hdk, hda⟩ := htr.nd
     have HO0 : Hid (r = if (tk l j).1.kind = 0 then .ok t else .error (70, (tk l j).2)) := hide HO1.out
     clear hdk hda htr hb2 hr1 hB1 hrk hrd HO1
     unfold ND.v at HT ⊢
     have hal8 := al1 w2 (.cells #[.int .i64 dd.k, .int .i64 dd.a, .slice dd.sp dd.sl dd.sc, .string dd.n, .slice dd.kp dd.kl dd.kc] 25)
     have hB8 := nx hB2 hal8
     have hr8 := (hal8.block w.heap.size (Array.getElem?_eq_some_iff.1 hr2).1).trans hr2
     have hx8 := heap_alloc_new w2 (.cells #[.int .i64 dd.k, .int .i64 dd.a, .slice dd.sp dd.sl dd.sc, .string dd.n, .slice dd.kp dd.kl dd.kc] 25)
     have hrk8 := hrk2.later hal8
     have HT8 := hide (HT.out.below hal8)
     obtain ⟨w3, hw3⟩ : ∃ w3, w2.alloc (.cells #[.int .i64 dd.k, .int .i64 dd.a, .slice dd.sp dd.sl dd.sc, .string dd.n, .slice dd.kp dd.kl dd.kc] 25) = w3 := ⟨_, rfl⟩
     rw [hw3] at hB8 hr8 hx8 hrk8 HT8
     have hsg := signAt_any ap cp l j w3 hrk8
     obtain ⟨tj, htj⟩ : ∃ tj, tk l j = tj := ⟨_, rfl⟩
     rw [htj] at hsg HO0
     unfold tokV at hsg
     clear hB2 hr2 hrk2 hal8 htj
     go_wp2_with fail
     refine hsg.mono ?_
     rintro e w3b ⟨rfl, hb⟩
     have hB3b := nx hB8 hb
     have hr3b := (hb.block w.heap.size (Array.getElem?_eq_some_iff.1 hr8).1).trans hr8
     have hal := al1 w3b (.cells #[.int .i64 (tj.1.kind : Int), .int .i64 (tj.2 : Int), .string ⟨tj.1.text.toArray⟩, .int .i32 tj.1.r] 111)
     have hx10 := heap_alloc_new w3b (.cells #[.int .i64 (tj.1.kind : Int), .int .i64 (tj.2 : Int), .string ⟨tj.1.text.toArray⟩, .int .i32 tj.1.r] 111)
     have hb2 := nx hb hal
     have hB4 := nx hB8 hb2
     have hr4 := (hb2.block w.heap.size (Array.getElem?_eq_some_iff.1 hr8).1).trans hr8
     have hx9 := (hb2.block w2.heap.size (Array.getElem?_eq_some_iff.1 hx8).1).trans hx8
     have HT9 := hide (HT8.out.below hb2)
     obtain ⟨w4, hw4⟩ : ∃ w4, w3b.alloc (.cells #[.int .i64 (tj.1.kind : Int), .int .i64 (tj.2 : Int), .string ⟨tj.1.text.toArray⟩, .int .i32 tj.1.r] 111) = w4 := ⟨_, rfl⟩
     rw [hw4] at hx10 hB4 hr4 hx9 HT9
     clear hb hal hb2 hB8 hr8 hx8 hrk8 HT8 HT hsg
     by_cases hk0 : tj.1.kind = 0
     · have e0 : ((tj.1.kind : Int) != 0) = false := by simp [hk0]
       rw [if_pos hk0] at HO0
       clear hk0
       obtain ⟨q10, q11, q12, q13⟩ := cells_four hx10
       obtain ⟨m0, m1, m2, m3, m4⟩ := cells_five hx9
       obtain ⟨q0, q1, q2, q3, q4⟩ := cells_five hr4
       have g0 := frozen_row hr4 0
       have g1 := frozen_row hr4 1
       have g2 := frozen_row hr4 2
       have g3 := frozen_row hr4 3
       have g4 := frozen_row hr4 4
       have HB := hide hB4
       clear hB4
       go_wp2
       obtain ⟨u0, u1, u2, u3, u4⟩ := cells_five (putN_box (v0 := .int .i64 dd.k) (v1 := .int .i64 dd.a) (v2 := .slice dd.sp dd.sl dd.sc) (v3 := .string dd.n) (v4 := .slice dd.kp dd.kl dd.kc) hr4)
       exact bodyPost_ret (w := putN w4 w.heap.size _ _ _ _ _) (v := .tuple #[.agg #[.int .i64 dd.k, .int .i64 dd.a, .slice dd.sp dd.sl dd.sc, .string dd.n, .slice dd.kp dd.kl dd.kc], .int .i64 0, .int .i64 0]) (by simp [results, Tryz.results27, go_sem, u0, u1, u2, u3, u4]) rfl ⟨putN_below HB.out (Nat.le_refl _), .inl ⟨t, _, HO0.out, rfl, TR.mono (fun b _ hb => by show w.heap.size ≤ b; omega) _ (HT9.out.putN (roomN_noI hr4) (by show ¬ w.heap.size + 1 ≤ w.heap.size; omega))⟩⟩
     · have e0 : ((tj.1.kind : Int) != 0) = true := by simp; omega
       rw [if_neg hk0] at HO0
       clear hk0
       have HCC : ((((70 : Nat) : Int)) != 0) = true := rfl
       obtain ⟨q10, q11, q12, q13⟩ := cells_four hx10
       have hne1 : ¬ w.heap.size = w3b.heap.size := by have := hB3b.size; have := (Array.getElem?_eq_some_iff.1 hr3b).1; omega
       have hne2 : ¬ w3b.heap.size = w.heap.size := fun e => hne1 e.symm
       obtain ⟨q0, q1, q2, q3, q4⟩ := cells_five hr4
       have g0 := frozen_row hr4 0
       have g1 := frozen_row hr4 1
       have g2 := frozen_row hr4 2
       have g3 := frozen_row hr4 3
       have g4 := frozen_row hr4 4
       have HB := hide hB4
       clear hB4
       go_wp2_with fail
       go_region
       obtain ⟨u0, u1, u2, u3, u4⟩ := cells_five (putN_box (v0 := .int .i64 0) (v1 := .int .i64 0) (v2 := .slice none 0 0) (v3 := .string ⟨#[]⟩) (v4 := .slice none 0 0) hr4)
       have HBP := hide (putN_below (b := w.heap.size) (v0 := .int .i64 0) (v1 := .int .i64 0) (v2 := .slice none 0 0) (v3 := .string ⟨#[]⟩) (v4 := .slice none 0 0) HB.out (Nat.le_refl _))
       unfold putN at u0 u1 u2 u3 u4 HBP
       obtain ⟨w5, hw5⟩ : ∃ w5, ((((w4.setCell ⟨w.heap.size, 0, none⟩ (.int .i64 0)).setCell ⟨w.heap.size, 1, none⟩ (.int .i64 0)).setCell ⟨w.heap.size, 2, none⟩ (.slice none 0 0)).setCell ⟨w.heap.size, 3, none⟩ (.string ⟨#[]⟩)).setCell ⟨w.heap.size, 4, none⟩ (.slice none 0 0) = w5 := ⟨_, rfl⟩
       rw [hw5] at u0 u1 u2 u3 u4 HBP ⊢
       clear hw5
       go_wp2
       exact bodyPost_ret (v := .tuple #[zN, .int .i64 (tj.2 : Int), .int .i64 (70 : Int)]) (by unfold zN; simp [results, Tryz.results27, go_sem, u0, u1, u2, u3, u4]) rfl ⟨HBP.out.drew, .inr ⟨70, tj.2, HO0.out, rfl, HCC⟩⟩
   · have hB2 := nx hB1 hb2
     have hr2 := (hb2.block w.heap.size (Array.getElem?_eq_some_iff.1 hr1).1).trans hr1
     have hrk2 := hrk.later hb2
     have HO0 : Hid (r = .error (c, (tk l j).2)) := hide HO1.out
     have HCC := hc
     have ec : ((c : Int) == 0) = false := by simpa using hc
     clear hb2 hr1 hB1 hrk hrd HO1
     unfold zN
     have hal8 := al1 w2 (.cells #[.int .i64 0, .int .i64 0, .slice none 0 0, .string ⟨#[]⟩, .slice none 0 0] 25)
     have hB8 := nx hB2 hal8
     have hr8 := (hal8.block w.heap.size (Array.getElem?_eq_some_iff.1 hr2).1).trans hr2
     have hx8 := heap_alloc_new w2 (.cells #[.int .i64 0, .int .i64 0, .slice none 0 0, .string ⟨#[]⟩, .slice none 0 0] 25)
     have hrk8 := hrk2.later hal8
     obtain ⟨w3, hw3⟩ : ∃ w3, w2.alloc (.cells #[.int .i64 0, .int .i64 0, .slice none 0 0, .string ⟨#[]⟩, .slice none 0 0] 25) = w3 := ⟨_, rfl⟩
     rw [hw3] at hB8 hr8 hx8 hrk8
     have HW3 := hide hw3
     clear hw3
     have hsg := signAt_any ap cp l j w3 hrk8
     obtain ⟨tj, htj⟩ : ∃ tj, tk l j = tj := ⟨_, rfl⟩
     rw [htj] at hsg HO0
     unfold tokV at hsg
     clear hB2 hr2 hrk2 hal8 htj
     go_wp2_with fail
     rw [HW3.out]
     refine hsg.mono ?_
     rintro e w3b ⟨rfl, hb⟩
     have hB3b := nx hB8 hb
     have hr3b := (hb.block w.heap.size (Array.getElem?_eq_some_iff.1 hr8).1).trans hr8
     have hal := al1 w3b (.cells #[.int .i64 (tj.1.kind : Int), .int .i64 (tj.2 : Int), .string ⟨tj.1.text.toArray⟩, .int .i32 tj.1.r] 111)
     have hx10 := heap_alloc_new w3b (.cells #[.int .i64 (tj.1.kind : Int), .int .i64 (tj.2 : Int), .string ⟨tj.1.text.toArray⟩, .int .i32 tj.1.r] 111)
     have hb2 := nx hb hal
     have hB4 := nx hB8 hb2
     have hr4 := (hb2.block w.heap.size (Array.getElem?_eq_some_iff.1 hr8).1).trans hr8
     have hx9 := (hb2.block w2.heap.size (Array.getElem?_eq_some_iff.1 hx8).1).trans hx8
     obtain ⟨w4, hw4⟩ : ∃ w4, w3b.alloc (.cells #[.int .i64 (tj.1.kind : Int), .int .i64 (tj.2 : Int), .string ⟨tj.1.text.toArray⟩, .int .i32 tj.1.r] 111) = w4 := ⟨_, rfl⟩
     rw [hw4] at hx10 hB4 hr4
     clear hb hal hb2 hB8 hr8 hx8 hrk8 hsg hx9
     obtain ⟨q10, q11, q12, q13⟩ := cells_four hx10
     have hne1 : ¬ w.heap.size = w3b.heap.size := by have := hB3b.size; have := (Array.getElem?_eq_some_iff.1 hr3b).1; omega
     have hne2 : ¬ w3b.heap.size = w.heap.size := fun e => hne1 e.symm
     obtain ⟨q0, q1, q2, q3, q4⟩ := cells_five hr4
     have g0 := frozen_row hr4 0
     have g1 := frozen_row hr4 1
     have g2 := frozen_row hr4 2
     have g3 := frozen_row hr4 3
     have g4 := frozen_row hr4 4
     have HB := hide hB4
     clear hB4
     go_wp2_with fail
     go_region
     obtain ⟨u0, u1, u2, u3, u4⟩ := cells_five (putN_box (v0 := .int .i64 0) (v1 := .int .i64 0) (v2 := .slice none 0 0) (v3 := .string ⟨#[]⟩) (v4 := .slice none 0 0) hr4)
     have HBP := hide (putN_below (b := w.heap.size) (v0 := .int .i64 0) (v1 := .int .i64 0) (v2 := .slice none 0 0) (v3 := .string ⟨#[]⟩) (v4 := .slice none 0 0) HB.out (Nat.le_refl _))
     unfold putN at u0 u1 u2 u3 u4 HBP
     obtain ⟨w5, hw5⟩ : ∃ w5, ((((w4.setCell ⟨w.heap.size, 0, none⟩ (.int .i64 0)).setCell ⟨w.heap.size, 1, none⟩ (.int .i64 0)).setCell ⟨w.heap.size, 2, none⟩ (.slice none 0 0)).setCell ⟨w.heap.size, 3, none⟩ (.string ⟨#[]⟩)).setCell ⟨w.heap.size, 4, none⟩ (.slice none 0 0) = w5 := ⟨_, rfl⟩
     rw [hw5] at u0 u1 u2 u3 u4 HBP ⊢
     clear hw5
     go_wp2
     exact bodyPost_ret (v := .tuple #[zN, .int .i64 (tj.2 : Int), .int .i64 (c : Int)]) (by unfold zN; simp [results, Tryz.results27, go_sem, u0, u1, u2, u3, u4]) rfl ⟨HBP.out.drew, .inr ⟨c, tj.2, HO0.out, rfl, HCC⟩⟩
 · have hB1 := nx h0 hb1
   have hr1 := (hb1.block w.heap.size (Array.getElem?_eq_some_iff.1 hr0).1).trans hr0
   have HO : Hid (r = .error (60, at_)) := hide HP.out
   clear HP HG hsc hr0 h0
   have HCC : ((((60 : Nat) : Int)) != 0) = true := rfl
   obtain ⟨q0, q1, q2, q3, q4⟩ := cells_five hr1
   have g0 := frozen_row hr1 0
   have g1 := frozen_row hr1 1
   have g2 := frozen_row hr1 2
   have g3 := frozen_row hr1 3
   have g4 := frozen_row hr1 4
   have HB := hide hB1
   clear hB1
   go_wp2
   obtain ⟨u0, u1, u2, u3, u4⟩ := cells_five (putN_box (v0 := .int .i64 0) (v1 := .int .i64 0) (v2 := .slice none 0 0) (v3 := .string ⟨#[]⟩) (v4 := .slice none 0 0) hr1)
   exact bodyPost_ret (w := putN w1 w.heap.size _ _ _ _ _) (v := .tuple #[zN, .int .i64 (at_ : Int), .int .i64 60]) (by unfold zN; simp [results, Tryz.results27, go_sem, u0, u1, u2, u3, u4]) rfl ⟨putN_below HB.out (Nat.le_refl _), .inr ⟨60, at_, HO.out, rfl, HCC⟩⟩
theorem parse_light (s : ByteArray) (hs : s.size ≤ 39999) (hx : ∀ l, X.scan 0 (bts s) = .ok l → ∀ x ∈ l, x.1.kind ≠ 5 ∧ isS x [91] = false ∧ isS x [46] = false) (w : World) (ht : Tabs w) : Calls Tryz.prog 27 #[.string s] w (AnsP (E.parse (bts s)) w) :=
 parse_big s (by omega) (fun l h => scan_good h (by rw [bts_len]; exact hs) (hx l h)) w ht
end Go.Proofs.YtgngaldoemopjaaGreatDoor
namespace Go.Proofs.YtgngaldoemopjaaGreatDoor.U
open Go.RowKit Go.Shelf
theorem Reg.gtr {P : Program} {w : World} {ρ : Operand → Value} {o : Oper} {t t' : TypeId} {x y : Operand} {k : IntKind} {m n : Int} {b : Bool} (hop : o.op = .binOp .gtr t x y t') (hx : ρ x = .int k m) (hy : ρ y = .int k n) (h : decide (n < m) = b) :
   (execOp ρ o).run P w = .ok (.value (.bool b)) w := by
 obtain ⟨dst, op, type, pos, after, guard⟩ := o
 simp only at hop
 subst hop
 subst h
 simp [execOp, hx, hy, eqGuard, binOp, Op.intCmp]
theorem Reg.sub {P : Program} {w : World} {ρ : Operand → Value} {o : Oper} {t t' : TypeId} {x y : Operand} {k : IntKind} {m n r : Int} (hop : o.op = .binOp .sub t x y t') (hx : ρ x = .int k m) (hy : ρ y = .int k n) (h : k.wrap (m - n) = r) :
   (execOp ρ o).run P w = .ok (.value (.int k r)) w := by
 obtain ⟨dst, op, type, pos, after, guard⟩ := o
 simp only at hop
 subst hop
 subst h
 simp [execOp, hx, hy, eqGuard, binOp, Op.intArith]
def Told (p : Prop) (e : Ending) : Prop := ∃ b, e = .returned (.bool b) ∧ (b = true ↔ p)
theorem told_yes {p : Prop} (h : p) : Told p (.returned (.bool true)) := ⟨true, rfl, by simp [h]⟩
theorem told_no {p : Prop} (h : ¬ p) : Told p (.returned (.bool false)) := ⟨false, rfl, by simp [h]⟩
theorem elemSize22 (w : World) : (sizeOf (Tryz.prog.elem 22)).run Tryz.prog w = .ok 2 w := by kernel_rfl
set_option maxRecDepth 100000 in
set_option maxHeartbeats 4000000 in
theorem is_any (ao : Option Addr) (ca : Nat) (xs : List S.R) (h32 : ∀ r ∈ xs, -2147483648 ≤ r.1 ∧ r.1 ≤ 2147483647 ∧ -2147483648 ≤ r.2 ∧ r.2 ≤ 2147483647) (hl : xs.length ≤ 1000000) (w : World) (h : RdR w ao xs) :
   Calls Tryz.prog 92 #[.slice ao xs.length ca] w fun e W' => Told (S.Canon xs) e ∧ Below w.heap.size w W' := by
 go_enter Tryz.func92, Tryz.ntmps92
 go_wp2
 go_loopw [7] (fun p wr => ∃ k : Nat, p = .int .i64 (k : Int) ∧ k ≤ xs.length ∧ S.Canon (xs.take k) ∧ Below w.heap.size w wr) (fun p _ => xs.length - (intOf p).toNat)
 case atStart => exact ⟨0, rfl, Nat.zero_le _, S.canon_nil, Below.refl _ _⟩
 case round =>
   obtain ⟨k, rfl, hk, hC, hB⟩ := hrel
   by_cases hlt : k < xs.length
   · obtain ⟨b, off, rfl, hd1, hd2⟩ := (h.later hB) k hlt
     have h32k := h32 _ (List.getElem_mem hlt)
     have hmem := List.getElem_mem hlt
     have HT : Hid (xs.take (k + 1) = xs.take k ++ [xs[k]]) := List.take_succ_eq_append_getElem hlt
     have hprev : ∀ m, k = m + 1 → ∃ p1 p2 : Int, xs[m]? = some (p1, p2) ∧ (p1, p2) ∈ xs.take k ∧ (∀ x ∈ xs.take k, x.2 ≤ p2) ∧ wr.cell? ⟨b, off + m * 2, none⟩ = some (.int .i32 p1) ∧ wr.cell? ⟨b, off + m * 2 + 1, none⟩ = some (.int .i32 p2) := by
       rintro m rfl
       obtain ⟨b', off', e, c1, c2⟩ := (h.later hB) m (by omega)
       cases e
       refine ⟨xs[m].1, xs[m].2, by rw [List.getElem?_eq_getElem (by omega)], ?_, ?_, c1, c2⟩
       · rw [List.take_succ_eq_append_getElem (by omega)]
         exact List.mem_append_right _ (List.mem_singleton.2 rfl)
       · intro x hx
         rw [List.take_succ_eq_append_getElem (by omega)] at hx hC
         obtain ⟨_, h2, h3⟩ := S.canon_append.1 hC
         rcases List.mem_append.1 hx with hx | hx
         · have h4 := h3 x hx xs[m] (by simp)
           have h5 := (S.good_iff _).1 (h2.good xs[m] (by simp))
           omega
         · obtain rfl : x = xs[m] := by simpa using hx
           exact Int.le_refl _
     generalize hxk : xs[k] = s at *
     obtain ⟨s1, s2⟩ := s
     simp only at hd1 hd2 h32k
     have hgood := isGood_any s1 s2
     obtain ⟨gx, hgx⟩ : ∃ gx, S.good (s1, s2) = gx := ⟨_, rfl⟩
     rw [hgx] at hgood
     have HX := hide hgx
     clear hgx hxk
     cases gx with
     | false =>
       go_wp2_with fail
       obtain ⟨wa, hwa⟩ : ∃ wa, wa = (wr.alloc (.cells #[.int .i32 s1, .int .i32 s2] 140)).drew := ⟨_, rfl⟩
       have hB1 : Below wr.heap.size wr wa := by rw [hwa]; exact (al1 _ _).drew
       have hbx : wa.heap[wr.heap.size]? = some (.cells #[.int .i32 s1, .int .i32 s2] 140) := by rw [hwa]; exact World.alloc_heap_new wr _
       have hls : wr.heap.size < wa.heap.size := (Array.getElem?_eq_some_iff.1 hbx).1
       have hzr : ∀ {wx : World} {b' o' : Nat} {cs : List Value}, wa.rangeAt b' o' cs → b' < wa.heap.size → Below wa.heap.size wa wx → wx.rangeAt b' o' cs := fun h hl hb j v hj => (hb.cell hl).trans (h j v hj)
       refine Reg.start (B := wa.heap.size) (by kernel_rfl) ?_
       rw [← hwa]
       refine Reg.take (fun _ _ _ _ _ h => h) 0 _ 12 (.agg #[.int .i32 s1, .int .i32 s2]) rfl (by kernel_rfl) (by kernel_rfl) (by kernel_rfl) rfl (by kernel_rfl) (by kernel_rfl) (fun wx hb => Reg.ld (cs := [.int .i32 s1, .int .i32 s2]) rfl (by kernel_rfl) (hzr (range_block hbx) hls hb) Tryz.underlying140 rfl (by kernel_rfl)) ?_
       refine Reg.call 1 _ 13 106 _ _ #[.agg #[.int .i32 s1, .int .i32 s2]] rfl (by kernel_rfl) rfl (by kernel_rfl) (by kernel_rfl) rfl (by kernel_rfl) (by kernel_rfl) (hgood wa) ?_
       rintro e w13 ⟨rfl, hb13⟩
       refine ⟨_, w13.heap.size, rfl, hb13.size, hb13, ?_⟩
       refine Reg.take (fun _ _ _ _ _ h => h) 2 _ 14 (.bool true) rfl (by kernel_rfl) (by kernel_rfl) (by kernel_rfl) rfl (by kernel_rfl) (by kernel_rfl) (fun _ _ => by kernel_rfl) ?_
       refine Reg.take (fun _ _ _ _ _ h => h) 3 _ 15 (.bool true) rfl (by kernel_rfl) (by kernel_rfl) (by kernel_rfl) rfl (by kernel_rfl) (by kernel_rfl) (fun _ _ => by kernel_rfl) ?_
       refine Reg.skip (fun _ _ _ _ _ h => h) 4 _ 16 rfl (by kernel_rfl) (by kernel_rfl) (by kernel_rfl) rfl (by kernel_rfl) (by kernel_rfl) ?_
       refine Reg.skip (fun _ _ _ _ _ h => h) 5 _ 17 rfl (by kernel_rfl) (by kernel_rfl) (by kernel_rfl) rfl (by kernel_rfl) (by kernel_rfl) ?_
       refine Reg.skip (fun _ _ _ _ _ h => h) 6 _ 18 rfl (by kernel_rfl) (by kernel_rfl) (by kernel_rfl) rfl (by kernel_rfl) (by kernel_rfl) ?_
       refine Reg.skip (fun _ _ _ _ _ h => h) 7 _ 19 rfl (by kernel_rfl) (by kernel_rfl) (by kernel_rfl) rfl (by kernel_rfl) (by kernel_rfl) ?_
       refine Reg.skip (fun _ _ _ _ _ h => h) 8 _ 20 rfl (by kernel_rfl) (by kernel_rfl) (by kernel_rfl) rfl (by kernel_rfl) (by kernel_rfl) ?_
       refine Reg.skip (fun _ _ _ _ _ h => h) 9 _ 21 rfl (by kernel_rfl) (by kernel_rfl) (by kernel_rfl) rfl (by kernel_rfl) (by kernel_rfl) ?_
       refine Reg.skip (fun _ _ _ _ _ h => h) 10 _ 22 rfl (by kernel_rfl) (by kernel_rfl) (by kernel_rfl) rfl (by kernel_rfl) (by kernel_rfl) ?_
       refine Reg.skip (fun _ _ _ _ _ h => h) 11 _ 23 rfl (by kernel_rfl) (by kernel_rfl) (by kernel_rfl) rfl (by kernel_rfl) (by kernel_rfl) ?_
       refine Reg.skip (fun _ _ _ _ _ h => h) 12 _ 24 rfl (by kernel_rfl) (by kernel_rfl) (by kernel_rfl) rfl (by kernel_rfl) (by kernel_rfl) ?_
       refine Reg.skip (fun _ _ _ _ _ h => h) 13 _ 25 rfl (by kernel_rfl) (by kernel_rfl) (by kernel_rfl) rfl (by kernel_rfl) (by kernel_rfl) ?_
       refine Reg.skip (fun _ _ _ _ _ h => h) 14 _ 26 rfl (by kernel_rfl) (by kernel_rfl) (by kernel_rfl) rfl (by kernel_rfl) (by kernel_rfl) ?_
       refine Reg.skip (fun _ _ _ _ _ h => h) 15 _ 27 rfl (by kernel_rfl) (by kernel_rfl) (by kernel_rfl) rfl (by kernel_rfl) (by kernel_rfl) ?_
       refine Reg.skip (fun _ _ _ _ _ h => h) 16 _ 28 rfl (by kernel_rfl) (by kernel_rfl) (by kernel_rfl) rfl (by kernel_rfl) (by kernel_rfl) ?_
       refine Reg.skip (fun _ _ _ _ _ h => h) 17 _ 29 rfl (by kernel_rfl) (by kernel_rfl) (by kernel_rfl) rfl (by kernel_rfl) (by kernel_rfl) ?_
       refine Reg.take (fun _ _ _ _ _ h => h) 18 _ 30 (.bool true) rfl (by kernel_rfl) (by kernel_rfl) (by kernel_rfl) rfl (by kernel_rfl) (by kernel_rfl) (fun _ _ => by kernel_rfl) ?_
       refine Reg.done_at (by kernel_rfl) { tmps := #[.slice (some ⟨b, off, none⟩) xs.length ca, undef, u2, .int .i64 (k : Int), .pointer (some ⟨wr.heap.size, 0, none⟩), .slice (some ⟨b, off, none⟩) xs.length ca, .int .i64 (xs.length : Int), .int .i64 (k : Int), .bool true, .int .i64 (k : Int), .pointer (some ⟨b, off + k * 2, none⟩), .agg #[.int .i32 s1, .int .i32 s2], .agg #[.int .i32 s1, .int .i32 s2], .bool false, .bool true, .bool true, undef, undef, undef, undef, undef, undef, undef, undef, undef, undef, undef, undef, undef, undef, .bool true, u31], defers := [] } (by kernel_rfl) ?_
       have hB3 := nx (nx hB hB1) hb13
       have hnC : ¬ S.Canon xs := fun hc => by
         have := hc.good _ hmem
         rw [HX.out] at this
         cases this
       clear hprev hgood h
       go_wp2
       go_ret
       exact ⟨told_no hnC, hB3⟩
     | true =>
      by_cases hk0 : k = 0
      ·
       have HD0 : Hid (decide (0 < (k : Int)) = false) := decide_eq_false (by omega)
       have HK0 := hide hk0
       clear hk0
       go_wp2_with fail
       obtain ⟨wa, hwa⟩ : ∃ wa, wa = (wr.alloc (.cells #[.int .i32 s1, .int .i32 s2] 140)).drew := ⟨_, rfl⟩
       have hB1 : Below wr.heap.size wr wa := by rw [hwa]; exact (al1 _ _).drew
       have hbx : wa.heap[wr.heap.size]? = some (.cells #[.int .i32 s1, .int .i32 s2] 140) := by rw [hwa]; exact World.alloc_heap_new wr _
       have hls : wr.heap.size < wa.heap.size := (Array.getElem?_eq_some_iff.1 hbx).1
       have hzr : ∀ {wx : World} {b' o' : Nat} {cs : List Value}, wa.rangeAt b' o' cs → b' < wa.heap.size → Below wa.heap.size wa wx → wx.rangeAt b' o' cs := fun h hl hb j v hj => (hb.cell hl).trans (h j v hj)
       refine Reg.start (B := wa.heap.size) (by kernel_rfl) ?_
       rw [← hwa]
       refine Reg.take (fun _ _ _ _ _ h => h) 0 _ 12 (.agg #[.int .i32 s1, .int .i32 s2]) rfl (by kernel_rfl) (by kernel_rfl) (by kernel_rfl) rfl (by kernel_rfl) (by kernel_rfl) (fun wx hb => Reg.ld (cs := [.int .i32 s1, .int .i32 s2]) rfl (by kernel_rfl) (hzr (range_block hbx) hls hb) Tryz.underlying140 rfl (by kernel_rfl)) ?_
       refine Reg.call 1 _ 13 106 _ _ #[.agg #[.int .i32 s1, .int .i32 s2]] rfl (by kernel_rfl) rfl (by kernel_rfl) (by kernel_rfl) rfl (by kernel_rfl) (by kernel_rfl) (hgood wa) ?_
       rintro e w13 ⟨rfl, hb13⟩
       refine ⟨_, w13.heap.size, rfl, hb13.size, hb13, ?_⟩
       refine Reg.take (fun _ _ _ _ _ h => h) 2 _ 14 (.bool false) rfl (by kernel_rfl) (by kernel_rfl) (by kernel_rfl) rfl (by kernel_rfl) (by kernel_rfl) (fun _ _ => by kernel_rfl) ?_
       refine Reg.take (fun _ _ _ _ _ h => h) 3 _ 15 (.bool false) rfl (by kernel_rfl) (by kernel_rfl) (by kernel_rfl) rfl (by kernel_rfl) (by kernel_rfl) (fun _ _ => by kernel_rfl) ?_
       refine Reg.take (fun _ _ _ _ _ h => h) 4 _ 16 (.int .i64 (k : Int)) rfl (by kernel_rfl) (by kernel_rfl) (by kernel_rfl) rfl (by kernel_rfl) (by kernel_rfl) (fun _ _ => by kernel_rfl) ?_
       refine Reg.take (fun _ _ _ _ _ h => h) 5 _ 17 (.bool false) rfl (by kernel_rfl) (by kernel_rfl) (by kernel_rfl) rfl (by kernel_rfl) (by kernel_rfl) (fun _ _ => Reg.gtr (k := .i64) (m := (k : Int)) (n := 0) rfl (by kernel_rfl) (by kernel_rfl) HD0.out) ?_
       refine Reg.take (fun _ _ _ _ _ h => h) 6 _ 18 (.bool false) rfl (by kernel_rfl) (by kernel_rfl) (by kernel_rfl) rfl (by kernel_rfl) (by kernel_rfl) (fun _ _ => by kernel_rfl) ?_
       refine Reg.skip (fun _ _ _ _ _ h => h) 7 _ 19 rfl (by kernel_rfl) (by kernel_rfl) (by kernel_rfl) rfl (by kernel_rfl) (by kernel_rfl) ?_
       refine Reg.skip (fun _ _ _ _ _ h => h) 8 _ 20 rfl (by kernel_rfl) (by kernel_rfl) (by kernel_rfl) rfl (by kernel_rfl) (by kernel_rfl) ?_
       refine Reg.skip (fun _ _ _ _ _ h => h) 9 _ 21 rfl (by kernel_rfl) (by kernel_rfl) (by kernel_rfl) rfl (by kernel_rfl) (by kernel_rfl) ?_
       refine Reg.skip (fun _ _ _ _ _ h => h) 10 _ 22 rfl (by kernel_rfl) (by kernel_rfl) (by kernel_rfl) rfl (by kernel_rfl) (by kernel_rfl) ?_
       refine Reg.skip (fun _ _ _ _ _ h => h) 11 _ 23 rfl (by kernel_rfl) (by kernel_rfl) (by kernel_rfl) rfl (by kernel_rfl) (by kernel_rfl) ?_
       refine Reg.skip (fun _ _ _ _ _ h => h) 12 _ 24 rfl (by kernel_rfl) (by kernel_rfl) (by kernel_rfl) rfl (by kernel_rfl) (by kernel_rfl) ?_
       refine Reg.skip (fun _ _ _ _ _ h => h) 13 _ 25 rfl (by kernel_rfl) (by kernel_rfl) (by kernel_rfl) rfl (by kernel_rfl) (by kernel_rfl) ?_
       refine Reg.skip (fun _ _ _ _ _ h => h) 14 _ 26 rfl (by kernel_rfl) (by kernel_rfl) (by kernel_rfl) rfl (by kernel_rfl) (by kernel_rfl) ?_
       refine Reg.skip (fun _ _ _ _ _ h => h) 15 _ 27 rfl (by kernel_rfl) (by kernel_rfl) (by kernel_rfl) rfl (by kernel_rfl) (by kernel_rfl) ?_
       refine Reg.skip (fun _ _ _ _ _ h => h) 16 _ 28 rfl (by kernel_rfl) (by kernel_rfl) (by kernel_rfl) rfl (by kernel_rfl) (by kernel_rfl) ?_
       refine Reg.take (fun _ _ _ _ _ h => h) 17 _ 29 (.bool false) rfl (by kernel_rfl) (by kernel_rfl) (by kernel_rfl) rfl (by kernel_rfl) (by kernel_rfl) (fun _ _ => by kernel_rfl) ?_
       refine Reg.take (fun _ _ _ _ _ h => h) 18 _ 30 (.bool false) rfl (by kernel_rfl) (by kernel_rfl) (by kernel_rfl) rfl (by kernel_rfl) (by kernel_rfl) (fun _ _ => by kernel_rfl) ?_
       refine Reg.done_at (by kernel_rfl) { tmps := #[.slice (some ⟨b, off, none⟩) xs.length ca, undef, u2, .int .i64 (k : Int), .pointer (some ⟨wr.heap.size, 0, none⟩), .slice (some ⟨b, off, none⟩) xs.length ca, .int .i64 (xs.length : Int), .int .i64 (k : Int), .bool true, .int .i64 (k : Int), .pointer (some ⟨b, off + k * 2, none⟩), .agg #[.int .i32 s1, .int .i32 s2], .agg #[.int .i32 s1, .int .i32 s2], .bool true, .bool false, .bool false, .int .i64 (k : Int), .bool false, .bool false, undef, undef, undef, undef, undef, undef, undef, undef, undef, undef, .bool false, .bool false, u31], defers := [] } (by kernel_rfl) ?_
       have hB3 := nx (nx hB hB1) hb13
       clear hprev hgood h
       go_wp2
       go_roundw
       case rel => exact ⟨k + 1, by go_num, by omega, by rw [HT.out, HK0.out]; exact S.canon_one HX.out, hB3⟩
       case measure => simp [intOf]; omega
      ·
       obtain ⟨m, hm⟩ : ∃ m, k = m + 1 := ⟨k - 1, by omega⟩
       obtain ⟨p1, p2, hpm, hpt, hpl, hp1, hp2⟩ := hprev m hm
       have hgp := (S.good_iff _).1 (hC.good _ hpt)
       simp only at hgp
       have hap := apart_any p1 p2 s1 s2 (by omega) (by omega)
       have hwm : IntKind.i64.wrap ((k : Int) - 1) = (m : Int) := by simp [IntKind.wrap, IntKind.bits, IntKind.signed]; omega
       have HM := hide hm
       have HD1 : Hid (decide (0 < (k : Int)) = true) := decide_eq_true (by omega)
       have hml : m < xs.length := by omega
       clear hm hk0
       go_wp2_with fail
       obtain ⟨wa, hwa⟩ : ∃ wa, wa = (wr.alloc (.cells #[.int .i32 s1, .int .i32 s2] 140)).drew := ⟨_, rfl⟩
       have hB1 : Below wr.heap.size wr wa := by rw [hwa]; exact (al1 _ _).drew
       have hbx : wa.heap[wr.heap.size]? = some (.cells #[.int .i32 s1, .int .i32 s2] 140) := by rw [hwa]; exact World.alloc_heap_new wr _
       have hls : wr.heap.size < wa.heap.size := (Array.getElem?_eq_some_iff.1 hbx).1
       have hzr : ∀ {wx : World} {b' o' : Nat} {cs : List Value}, wa.rangeAt b' o' cs → b' < wa.heap.size → Below wa.heap.size wa wx → wx.rangeAt b' o' cs := fun h hl hb j v hj => (hb.cell hl).trans (h j v hj)
       have hpa : wa.rangeAt b (off + m * 2) [.int .i32 p1, .int .i32 p2] := range_two (cell_later hB1 hp1) (cell_later hB1 hp2)
       have hlb : b < wa.heap.size := Nat.lt_of_lt_of_le (cell_lt hp1) hB1.size
       refine Reg.start (B := wa.heap.size) (by kernel_rfl) ?_
       rw [← hwa]
       refine Reg.take (fun _ _ _ _ _ h => h) 0 _ 12 (.agg #[.int .i32 s1, .int .i32 s2]) rfl (by kernel_rfl) (by kernel_rfl) (by kernel_rfl) rfl (by kernel_rfl) (by kernel_rfl) (fun wx hb => Reg.ld (cs := [.int .i32 s1, .int .i32 s2]) rfl (by kernel_rfl) (hzr (range_block hbx) hls hb) Tryz.underlying140 rfl (by kernel_rfl)) ?_
       refine Reg.call 1 _ 13 106 _ _ #[.agg #[.int .i32 s1, .int .i32 s2]] rfl (by kernel_rfl) rfl (by kernel_rfl) (by kernel_rfl) rfl (by kernel_rfl) (by kernel_rfl) (hgood wa) ?_
       rintro e w13 ⟨rfl, hb13⟩
       refine ⟨_, w13.heap.size, rfl, hb13.size, hb13, ?_⟩
       refine Reg.take (fun _ _ _ _ _ h => h) 2 _ 14 (.bool false) rfl (by kernel_rfl) (by kernel_rfl) (by kernel_rfl) rfl (by kernel_rfl) (by kernel_rfl) (fun _ _ => by kernel_rfl) ?_
       refine Reg.take (fun _ _ _ _ _ h => h) 3 _ 15 (.bool false) rfl (by kernel_rfl) (by kernel_rfl) (by kernel_rfl) rfl (by kernel_rfl) (by kernel_rfl) (fun _ _ => by kernel_rfl) ?_
       refine Reg.take (fun _ _ _ _ _ h => h) 4 _ 16 (.int .i64 (k : Int)) rfl (by kernel_rfl) (by kernel_rfl) (by kernel_rfl) rfl (by kernel_rfl) (by kernel_rfl) (fun _ _ => by kernel_rfl) ?_
       refine Reg.take (fun _ _ _ _ _ h => h) 5 _ 17 (.bool true) rfl (by kernel_rfl) (by kernel_rfl) (by kernel_rfl) rfl (by kernel_rfl) (by kernel_rfl) (fun _ _ => Reg.gtr (k := .i64) (m := (k : Int)) (n := 0) rfl (by kernel_rfl) (by kernel_rfl) HD1.out) ?_
       refine Reg.take (fun _ _ _ _ _ h => h) 6 _ 18 (.bool true) rfl (by kernel_rfl) (by kernel_rfl) (by kernel_rfl) rfl (by kernel_rfl) (by kernel_rfl) (fun _ _ => by kernel_rfl) ?_
       refine Reg.take (fun _ _ _ _ _ h => h) 7 _ 19 (.slice (some ⟨b, off, none⟩) xs.length ca) rfl (by kernel_rfl) (by kernel_rfl) (by kernel_rfl) rfl (by kernel_rfl) (by kernel_rfl) (fun _ _ => by kernel_rfl) ?_
       refine Reg.take (fun _ _ _ _ _ h => h) 8 _ 20 (.int .i64 (k : Int)) rfl (by kernel_rfl) (by kernel_rfl) (by kernel_rfl) rfl (by kernel_rfl) (by kernel_rfl) (fun _ _ => by kernel_rfl) ?_
       refine Reg.take (fun _ _ _ _ _ h => h) 9 _ 21 (.int .i64 (m : Int)) rfl (by kernel_rfl) (by kernel_rfl) (by kernel_rfl) rfl (by kernel_rfl) (by kernel_rfl) (fun _ _ => Reg.sub (k := .i64) (m := (k : Int)) (n := 1) rfl (by kernel_rfl) (by kernel_rfl) hwm) ?_
       refine Reg.take (fun _ _ _ _ _ h => h) 10 _ 22 (.pointer (some ⟨b, off + m * 2, none⟩)) rfl (by kernel_rfl) (by kernel_rfl) (by kernel_rfl) rfl (by kernel_rfl) (by kernel_rfl) (fun wx _ => Reg.ix (len := xs.length) (cap := ca) (q := .i64) rfl (by kernel_rfl) (by kernel_rfl) hml Tryz.underlying22 (elemSize22 wx)) ?_
       refine Reg.take (fun _ _ _ _ _ h => h) 11 _ 23 (.agg #[.int .i32 p1, .int .i32 p2]) rfl (by kernel_rfl) (by kernel_rfl) (by kernel_rfl) rfl (by kernel_rfl) (by kernel_rfl) (fun wx hb => Reg.ld (cs := [.int .i32 p1, .int .i32 p2]) rfl (by kernel_rfl) (hzr hpa hlb (nx hb13 hb)) Tryz.underlying140 rfl (by kernel_rfl)) ?_
       refine Reg.take (fun _ _ _ _ _ h => h) 13 _ 25 (.agg #[.int .i32 s1, .int .i32 s2]) rfl (by kernel_rfl) (by kernel_rfl) (by kernel_rfl) rfl (by kernel_rfl) (by kernel_rfl) (fun wx hb => Reg.ld (cs := [.int .i32 s1, .int .i32 s2]) rfl (by kernel_rfl) (hzr (range_block hbx) hls (nx hb13 hb)) Tryz.underlying140 rfl (by kernel_rfl)) ?_
       refine Reg.call 12 _ 24 107 _ _ #[.agg #[.int .i32 p1, .int .i32 p2]] rfl (by kernel_rfl) rfl (by kernel_rfl) (by kernel_rfl) rfl (by kernel_rfl) (by kernel_rfl) (spanOf_any p1 p2 w13) ?_
       rintro e w24 ⟨rfl, hb24⟩
       refine ⟨_, w24.heap.size, rfl, hb24.size, hb24, ?_⟩
       refine Reg.call 14 _ 26 107 _ _ #[.agg #[.int .i32 s1, .int .i32 s2]] rfl (by kernel_rfl) rfl (by kernel_rfl) (by kernel_rfl) rfl (by kernel_rfl) (by kernel_rfl) (spanOf_any s1 s2 w24) ?_
       rintro e w26 ⟨rfl, hb26⟩
       refine ⟨_, w26.heap.size, rfl, hb26.size, hb26, ?_⟩
       refine Reg.call 15 _ 27 118 _ _ #[.agg #[.int .i32 p1, .int .i32 p2], .agg #[.int .i32 s1, .int .i32 s2]] rfl (by kernel_rfl) rfl (by kernel_rfl) (by kernel_rfl) rfl (by kernel_rfl) (by kernel_rfl) (hap w26) ?_
       rintro e w27 ⟨rfl, hb27⟩
       refine ⟨_, w27.heap.size, rfl, hb27.size, hb27, ?_⟩
       have hB3 := nx (nx (nx (nx (nx hB hB1) hb13) hb24) hb26) hb27
       clear hprev hgood h hap
       by_cases hlt2 : p2 + 1 < s1
       · rw [decide_eq_true hlt2]
         refine Reg.take (fun _ _ _ _ _ h => h) 16 _ 28 (.bool false) rfl (by kernel_rfl) (by kernel_rfl) (by kernel_rfl) rfl (by kernel_rfl) (by kernel_rfl) (fun _ _ => by kernel_rfl) ?_
         refine Reg.take (fun _ _ _ _ _ h => h) 17 _ 29 (.bool false) rfl (by kernel_rfl) (by kernel_rfl) (by kernel_rfl) rfl (by kernel_rfl) (by kernel_rfl) (fun _ _ => by kernel_rfl) ?_
         refine Reg.take (fun _ _ _ _ _ h => h) 18 _ 30 (.bool false) rfl (by kernel_rfl) (by kernel_rfl) (by kernel_rfl) rfl (by kernel_rfl) (by kernel_rfl) (fun _ _ => by kernel_rfl) ?_
         refine Reg.done_at (by kernel_rfl) { tmps := #[.slice (some ⟨b, off, none⟩) xs.length ca, undef, u2, .int .i64 (k : Int), .pointer (some ⟨wr.heap.size, 0, none⟩), .slice (some ⟨b, off, none⟩) xs.length ca, .int .i64 (xs.length : Int), .int .i64 (k : Int), .bool true, .int .i64 (k : Int), .pointer (some ⟨b, off + k * 2, none⟩), .agg #[.int .i32 s1, .int .i32 s2], .agg #[.int .i32 s1, .int .i32 s2], .bool true, .bool false, .bool false, .int .i64 (k : Int), .bool true, .bool true, .slice (some ⟨b, off, none⟩) xs.length ca, .int .i64 (k : Int), .int .i64 (m : Int), .pointer (some ⟨b, off + m * 2, none⟩), .agg #[.int .i32 p1, .int .i32 p2], .agg #[.int .i32 p1, .int .i32 p2], .agg #[.int .i32 s1, .int .i32 s2], .agg #[.int .i32 s1, .int .i32 s2], .bool true, .bool false, .bool false, .bool false, u31], defers := [] } (by kernel_rfl) ?_
         go_wp2
         go_roundw
         case rel => exact ⟨k + 1, by go_num, by omega, by
           rw [HT.out]
           refine S.canon_append.2 ⟨hC, S.canon_one HX.out, fun x hx y hy => ?_⟩
           obtain rfl : y = (s1, s2) := by simpa using hy
           have := hpl x hx
           simp only
           omega, hB3⟩
         case measure => simp [intOf]; omega
       · rw [decide_eq_false hlt2]
         refine Reg.take (fun _ _ _ _ _ h => h) 16 _ 28 (.bool true) rfl (by kernel_rfl) (by kernel_rfl) (by kernel_rfl) rfl (by kernel_rfl) (by kernel_rfl) (fun _ _ => by kernel_rfl) ?_
         refine Reg.take (fun _ _ _ _ _ h => h) 17 _ 29 (.bool true) rfl (by kernel_rfl) (by kernel_rfl) (by kernel_rfl) rfl (by kernel_rfl) (by kernel_rfl) (fun _ _ => by kernel_rfl) ?_
         refine Reg.take (fun _ _ _ _ _ h => h) 18 _ 30 (.bool true) rfl (by kernel_rfl) (by kernel_rfl) (by kernel_rfl) rfl (by kernel_rfl) (by kernel_rfl) (fun _ _ => by kernel_rfl) ?_
         refine Reg.done_at (by kernel_rfl) { tmps := #[.slice (some ⟨b, off, none⟩) xs.length ca, undef, u2, .int .i64 (k : Int), .pointer (some ⟨wr.heap.size, 0, none⟩), .slice (some ⟨b, off, none⟩) xs.length ca, .int .i64 (xs.length : Int), .int .i64 (k : Int), .bool true, .int .i64 (k : Int), .pointer (some ⟨b, off + k * 2, none⟩), .agg #[.int .i32 s1, .int .i32 s2], .agg #[.int .i32 s1, .int .i32 s2], .bool true, .bool false, .bool false, .int .i64 (k : Int), .bool true, .bool true, .slice (some ⟨b, off, none⟩) xs.length ca, .int .i64 (k : Int), .int .i64 (m : Int), .pointer (some ⟨b, off + m * 2, none⟩), .agg #[.int .i32 p1, .int .i32 p2], .agg #[.int .i32 p1, .int .i32 p2], .agg #[.int .i32 s1, .int .i32 s2], .agg #[.int .i32 s1, .int .i32 s2], .bool false, .bool true, .bool true, .bool true, u31], defers := [] } (by kernel_rfl) ?_
         have HN : Hid (¬ S.Canon xs) := fun hc => by
           have e : xs = xs.take (k + 1) ++ xs.drop (k + 1) := (List.take_append_drop _ _).symm
           rw [e, HT.out] at hc
           have h1 := (S.canon_append.1 hc).1
           have := (S.canon_append.1 h1).2.2 _ hpt (s1, s2) (by simp)
           exact hlt2 this
         go_wp2
         go_ret
         exact ⟨told_no HN.out, hB3⟩
   · obtain rfl : k = xs.length := by omega
     rw [List.take_length] at hC
     have HC := hide hC
     clear hC
     go_wp2
     go_ret
     exact ⟨told_yes HC.out, hB⟩
end Go.Proofs.YtgngaldoemopjaaGreatDoor.U
