/- Joined: Isn Iss Nd7 Ct7. -/
import Derived.Test.YtgngaldoemopjaaGreatDoorFUIs
import Derived.Test.YtgngaldoemopjaaGreatDoorFPlc
import Derived.Laws.ResultCell
import Derived.Test.YtgngaldoemopjaaGreatDoorFNml
import Derived.ProofKit
import Derived.OpenShut
import Derived.ChangeAt
import Derived.Deep.SlicePairs
import Derived.Deep.MidRow
namespace Go.Proofs.YtgngaldoemopjaaGreatDoor
open Go.RowKit
open E (T)
theorem scan_ne (at_ : Nat) (s : List UInt8) : ∀ l, X.scan at_ s = .ok l → 0 < l.length := by
 refine X.scan_ind (p := fun at_ s => ∀ l, X.scan at_ s = .ok l → 0 < l.length) ?_ ?_ ?_ ?_ ?_ at_ s
 · intro at_ l h
   rw [X.scan_nil] at h
   cases h
   simp
 · intro at_ c u hb ih l h
   rw [X.scan_blank _ _ hb] at h
   exact ih l h
 · intro at_ u ih l h
   rw [X.scan_com] at h
   exact ih l h
 · intro at_ c u hb hc hn l h
   rw [X.scan_none _ _ hb hc hn] at h
   cases h
 · intro at_ c u t n hb hc hn ih l h
   rw [X.scan_some _ _ hb hc hn] at h
   cases hr : X.scan (at_ + n) ((c :: u).drop n) with
   | error e => rw [hr] at h; cases h
   | ok m =>
     rw [hr] at h
     cases h
     simp
namespace E
def kidsOf (k : Int) : Int := if k = 4 ∨ k = 5 then 2 else if k = 6 ∨ k = 7 ∨ k = 8 then 1 else 0
def nameP (n : List UInt8) : Bool :=
 decide (n.length ≤ 20) && match X.scan 0 (36 :: n) with
   | .ok (x :: _) => decide (x.1.kind = 1) && x.1.text == n
   | _ => false
def NodeOk (t : T) : Prop := (t.kids.length : Int) = kidsOf t.kind ∧
 ((t.kind = 1 ∧ t.name = [] ∧ t.set.length ≤ 200 ∧ U.S.Canon t.set) ∨ (t.kind = 2 ∧ t.set = [] ∧ nameP t.name = true) ∨ (3 ≤ t.kind ∧ t.kind ≤ 8 ∧ t.set = [] ∧ t.name = []))
def NodeB (t : T) : Prop := (∀ r ∈ t.set, -2147483648 ≤ r.1 ∧ r.1 ≤ 2147483647 ∧ -2147483648 ≤ r.2 ∧ r.2 ≤ 2147483647) ∧ t.name.length ≤ 9223372036854775807 ∧ t.set.length ≤ 9223372036854775807 ∧ t.kids.length ≤ 9223372036854775807
end E
theorem kidsOf_any (k : Int) (w : World) : Calls Tryz.prog 91 #[.int .i64 k] w fun e w' => e = .returned (.int .i64 (E.kidsOf k)) ∧ w' = w := by
 unfold E.kidsOf
 by_cases k4 : k = 4
 · subst k4
   go_enter Tryz.func91, Tryz.ntmps91
   go_wp2
   go_ret
   exact ⟨rfl, rfl⟩
 have e4 : (k == 4) = false := by simp [k4]
 by_cases k5 : k = 5
 · subst k5
   go_enter Tryz.func91, Tryz.ntmps91
   go_wp2
   go_ret
   exact ⟨rfl, rfl⟩
 have e5 : (k == 5) = false := by simp [k5]
 rw [if_neg (by omega)]
 by_cases k6 : k = 6
 · subst k6
   go_enter Tryz.func91, Tryz.ntmps91
   go_wp2
   go_ret
   exact ⟨rfl, rfl⟩
 have e6 : (k == 6) = false := by simp [k6]
 by_cases k7 : k = 7
 · subst k7
   go_enter Tryz.func91, Tryz.ntmps91
   go_wp2
   go_ret
   exact ⟨rfl, rfl⟩
 have e7 : (k == 7) = false := by simp [k7]
 by_cases k8 : k = 8
 · subst k8
   go_enter Tryz.func91, Tryz.ntmps91
   go_wp2
   go_ret
   exact ⟨rfl, rfl⟩
 have e8 : (k == 8) = false := by simp [k8]
 rw [if_neg (by omega)]
 clear k4 k5 k6 k7 k8
 go_enter Tryz.func91, Tryz.ntmps91
 go_wp2
 go_ret
 exact ⟨rfl, rfl⟩
set_option maxRecDepth 100000 in
set_option maxHeartbeats 2000000 in
theorem isName_any (s : List UInt8) (hs : s.length ≤ 9223372036854775807) (w : World) (ht : Tabs w) : Calls Tryz.prog 93 #[.string ⟨s.toArray⟩] w fun e w' => e = .returned (.bool (E.nameP s)) ∧ Below w.heap.size w w' := by
 have hsz : (⟨s.toArray⟩ : ByteArray).size = s.length := by show s.toArray.size = _; simp
 by_cases h20 : s.length ≤ 20
 · replace hs : s.length ≤ 281474976710656 := by omega
   have hcat : (⟨#[36]⟩ : ByteArray) ++ ⟨s.toArray⟩ = ⟨(36 :: s).toArray⟩ := by
     apply ByteArray.ext
     simp
   have hsc := scan_lex ⟨(36 :: s).toArray⟩ (by show (36 :: s).toArray.size ≤ 100000; simp; omega) w ht
   have hbt : bts ⟨(36 :: s).toArray⟩ = 36 :: s := rfl
   rw [hbt] at hsc
   have HN : Hid (E.nameP s = _) := hide (by unfold E.nameP; rw [decide_eq_true h20, Bool.true_and])
   generalize E.nameP s = np at *
   have hne := scan_ne 0 (36 :: s)
   generalize X.scan 0 (36 :: s) = sr at *
   have hgt : decide (20 < s.length) = false := by simp; omega
   have hgt2 : decide ((20 : Int) < (s.length : Int)) = false := by simp; omega
   have hca : (⟨#[36]⟩ : ByteArray) ++ ⟨s.toArray⟩ = ⟨#[36] ++ s.toArray⟩ := by apply ByteArray.ext; simp
   clear h20 hbt
   go_enter Tryz.func93, Tryz.ntmps93
   go_wp2_with fail
   refine hsc.mono ?_
   rintro e w1 ⟨⟨l, v, rfl, rfl, hown⟩ | ⟨at_, rfl, rfl⟩, hb1⟩
   · have hl := hne l rfl
     obtain ⟨ap, cp, rfl, _, _, hrk⟩ := hown.rd
     obtain ⟨b, off, rfl, c0, c1, c2, c3⟩ := hrk 0 hl
     have hix := elemSize106k
     cases l with
     | nil => simp at hl
     | cons x l =>
       have HN2 : Hid (np = (decide (x.1.kind = 1) && x.1.text == s)) := hide HN.out
       simp only [List.getElem_cons_zero, Nat.zero_mul, Nat.add_zero] at c0 c1 c2 c3
       rw [List.length_cons]
       obtain ⟨n, hn⟩ : ∃ n, l.length = n := ⟨_, rfl⟩
       rw [hn]
       clear hown hrk hsc HN hne hn hl
       by_cases hk : x.1.kind = 1
       · have ek : ((x.1.kind : Int) == 1) = true := by simp [hk]
         rw [decide_eq_true hk, Bool.true_and] at HN2
         clear hk
         go_wp2
         go_ret
         exact ⟨by rw [HN2.out]; rfl, hb1⟩
       · have ek : ((x.1.kind : Int) == 1) = false := by simp; omega
         rw [decide_eq_false hk, Bool.false_and] at HN2
         clear hk
         go_wp2
         go_ret
         exact ⟨by rw [HN2.out]; rfl, hb1⟩
   · have HN2 : Hid (np = false) := hide HN.out
     clear hsc HN hne
     go_wp2
     go_ret
     exact ⟨by rw [HN2.out]; rfl, hb1⟩
 · have HN : E.nameP s = false := by unfold E.nameP; rw [decide_eq_false h20, Bool.false_and]
   rw [HN]
   have hgt : decide (20 < s.length) = true := by simp; omega
   have hgt2 : decide ((20 : Int) < (s.length : Int)) = true := by simp; omega
   clear h20 HN
   go_enter Tryz.func93, Tryz.ntmps93
   go_wp2
   go_ret
   exact ⟨rfl, Below.refl _ _⟩
theorem Reg.neI {P : Program} {w : World} {ρ : Operand → Value} {o : Oper} {t t' : TypeId} {x y : Operand} {k : IntKind} {m m' : Int} (hop : o.op = .binOp .neq t x y t') (hx : ρ x = .int k m) (hy : ρ y = .int k m') :
   (execOp ρ o).run P w = .ok (.value (.bool (m != m'))) w := by
 obtain ⟨dst, op, type, pos, after, guard⟩ := o
 simp only at hop
 subst hop
 simp [execOp, hx, hy, go_sem]
theorem told_of {p q : Prop} {e : Ending} (h : U.Told p e) (hpq : p ↔ q) : U.Told q e := by
 obtain ⟨b, h1, h2⟩ := h
 exact ⟨b, h1, h2.trans hpq⟩
set_option maxRecDepth 100000 in
set_option maxHeartbeats 4000000 in
theorem isNode_any (t : T) (d : ND) (w : World) (ht : Tabs w) (hT : TR w (fun _ => True) t d.v) (hB : E.NodeB t) : Calls Tryz.prog 59 #[d.v] w fun e w' => U.Told (E.NodeOk t) e ∧ Below w.heap.size w w' := by
 cases t with
 | mk k a s n ks =>
 rw [TR] at hT
 obtain ⟨sp, sc, kp, kc, hv, hrd, hkc, hkr⟩ := hT
 obtain ⟨hb1, hb2, hb3, hb4⟩ := hB
 simp only [E.T.set, E.T.name, E.T.kids] at hb1 hb2 hb3 hb4
 rw [hv]
 clear hv hkr hkc
 have hbx := al1 w (.cells #[.int .i64 k, .int .i64 a, .slice sp s.length sc, .string ⟨n.toArray⟩, .slice kp ks.length kc] 25)
 have hko := kidsOf_any k
 have hnl : (⟨n.toArray⟩ : ByteArray).size = n.length := by show n.toArray.size = _; simp
 by_cases hk : (ks.length : Int) = E.kidsOf k
 · have hne : ((ks.length : Int) != E.kidsOf k) = false := by simp [hk]
   have HT : ∀ e, U.Told ((k = 1 ∧ n = [] ∧ s.length ≤ 200 ∧ U.S.Canon s) ∨ (k = 2 ∧ s = [] ∧ E.nameP n = true) ∨ (3 ≤ k ∧ k ≤ 8 ∧ s = [] ∧ n = [])) e → U.Told (E.NodeOk (.mk k a s n ks)) e :=
     fun e h => told_of h ⟨fun h => ⟨hk, h⟩, fun h => h.2⟩
   have HTT := hide HT
   clear HT hk
   generalize E.kidsOf k = kk at *
   have hbox := heap_alloc_new w (.cells #[.int .i64 k, .int .i64 a, .slice sp s.length sc, .string ⟨n.toArray⟩, .slice kp ks.length kc] 25)
   obtain ⟨w1, hw1⟩ : ∃ w1, w.alloc (.cells #[.int .i64 k, .int .i64 a, .slice sp s.length sc, .string ⟨n.toArray⟩, .slice kp ks.length kc] 25) = w1 := ⟨_, rfl⟩
   rw [hw1] at hbox hbx
   have hlt : w.heap.size < w1.heap.size := (Array.getElem?_eq_some_iff.1 hbox).1
   obtain ⟨c0, c1, c2, c3, c4⟩ := cells_five hbox
   have hrd1 := hrd.later hbx
   have ht1 := ht.later hbx
   go_enter Tryz.func59, Tryz.ntmps59
   go_wp2_with fail
   refine Reg.start (B := w1.heap.size) (by kernel_rfl) ?_
   refine Reg.take (fun _ _ _ _ _ h => h) 0 _ 3 (.pointer (some ⟨w.heap.size, 4, none⟩)) rfl (by kernel_rfl) (by kernel_rfl) (by kernel_rfl) rfl (by kernel_rfl) (by kernel_rfl) (fun wx hb => by kernel_rfl) ?_
   refine Reg.take (fun _ _ _ _ _ h => h) 1 _ 4 (.slice kp ks.length kc) rfl (by kernel_rfl) (by kernel_rfl) (by kernel_rfl) rfl (by kernel_rfl) (by kernel_rfl) (fun wx hb => Reg.ld1 rfl (by kernel_rfl) ((hb.cell (p := ⟨w.heap.size, 4, none⟩) hlt).trans c4) (Tryz.isAgg23 _)) ?_
   refine Reg.take (fun _ _ _ _ _ h => h) 2 _ 5 (.int .i64 (ks.length : Int)) rfl (by kernel_rfl) (by kernel_rfl) (by kernel_rfl) rfl (by kernel_rfl) (by kernel_rfl) (fun wx hb => by kernel_rfl) ?_
   refine Reg.take (fun _ _ _ _ _ h => h) 3 _ 6 (.pointer (some ⟨w.heap.size, 0, none⟩)) rfl (by kernel_rfl) (by kernel_rfl) (by kernel_rfl) rfl (by kernel_rfl) (by kernel_rfl) (fun wx hb => by kernel_rfl) ?_
   refine Reg.take (fun _ _ _ _ _ h => h) 4 _ 7 (.int .i64 k) rfl (by kernel_rfl) (by kernel_rfl) (by kernel_rfl) rfl (by kernel_rfl) (by kernel_rfl) (fun wx hb => Reg.ld1 rfl (by kernel_rfl) ((hb.cell (p := ⟨w.heap.size, 0, none⟩) hlt).trans c0) (Tryz.isAgg3 _)) ?_
   refine Reg.call 5 _ 8 91 _ _ #[.int .i64 k] rfl (by kernel_rfl) rfl (by kernel_rfl) (by kernel_rfl) rfl (by kernel_rfl) (by kernel_rfl) (hko w1.drew) ?_
   rintro e w2 ⟨rfl, rfl⟩
   refine ⟨_, w1.heap.size, rfl, Nat.le_refl _, Below.refl _ _, ?_⟩
   refine Reg.only 6 _ 9 rfl (by kernel_rfl) rfl (by kernel_rfl) (by kernel_rfl) ⟨.bool ((ks.length : Int) != kk), w1.drew, w1.heap.size, Reg.neI (k := .i64) rfl (by kernel_rfl) (by kernel_rfl), Nat.le_refl _, Below.refl _ _, ?_⟩
   refine Reg.done (by kernel_rfl) ?_
   simp only [Reg.ov, Act.put, List.setIfInBounds_toArray, List.set_cons_succ, List.set_cons_zero]
   rw [hne]
   have hbd : Below w.heap.size w w1.drew := hbx.drew
   obtain ⟨w3, hw3⟩ : ∃ w3, w1.drew = w3 := ⟨_, rfl⟩
   have c0' : w3.cell? ⟨w.heap.size, 0, none⟩ = _ := (congrArg (fun W => World.cell? W ⟨w.heap.size, 0, none⟩) hw3.symm).trans c0
   have c2' : w3.cell? ⟨w.heap.size, 2, none⟩ = _ := (congrArg (fun W => World.cell? W ⟨w.heap.size, 2, none⟩) hw3.symm).trans c2
   have c3' : w3.cell? ⟨w.heap.size, 3, none⟩ = _ := (congrArg (fun W => World.cell? W ⟨w.heap.size, 3, none⟩) hw3.symm).trans c3
   have hrd3 : U.RdR w3 sp s := hw3 ▸ (hrd1.later (Below.refl _ w1).drew)
   have ht3 : Tabs w3 := hw3 ▸ (ht1.later (Below.refl _ w1).drew)
   rw [hw3] at hbd ⊢
   clear hw3 hw1 c0 c1 c2 c3 c4 hbox hbx hrd hrd1 ht1 hne hko
   by_cases k1 : k = 1
   · subst k1
     by_cases hn0 : n = []
     · subst hn0
       by_cases h200 : s.length ≤ 200
       · have e200 : decide ((s.length : Int) ≤ 200) = true := by simp; omega
         have e200b : decide (s.length ≤ 200) = true := by simp; omega
         have his := U.is_any sp sc s hb1 (by omega) w3 hrd3
         have HF := hide (fun e (h : U.Told (U.S.Canon s) e) => HTT.out e (told_of h ⟨fun h => .inl ⟨rfl, rfl, h200, h⟩, fun h => by rcases h with h | h | h <;> first | exact h.2.2.2 | omega⟩))
         clear HTT hb1 h200
         go_wp2_with fail
         refine his.mono ?_
         rintro e w4 ⟨⟨b, rfl, hbb⟩, hb4⟩
         have HBB := hide hbb
         clear hbb
         go_wp2
         go_ret
         exact ⟨HF.out _ ⟨b, rfl, HBB.out⟩, nx hbd hb4⟩
       · have e200 : decide ((s.length : Int) ≤ 200) = false := by simp; omega
         have e200b : decide (s.length ≤ 200) = false := by simp; omega
         have HF := hide (HTT.out (.returned (.bool false)) (U.told_no (by rintro (h | h | h) <;> omega)))
         clear HTT hb1 h200
         go_wp2
         go_ret
         exact ⟨HF.out, hbd⟩
     · have en : (n == []) = false := by simpa using hn0
       have HF := hide (HTT.out (.returned (.bool false)) (U.told_no (by rintro (h | h | h) <;> first | exact hn0 h.2.1 | omega)))
       clear HTT hb1 hn0
       go_wp2
       go_ret
       exact ⟨HF.out, hbd⟩
   have e1 : (k == 1) = false := by simp [k1]
   by_cases k2 : k = 2
   · subst k2
     by_cases hs0 : s = []
     · subst hs0
       have hin := isName_any n hb2 w3 ht3
       have HF := hide (fun b (h : b = E.nameP n) => HTT.out (.returned (.bool b)) ⟨b, rfl, by rw [h]; exact ⟨fun h => .inr (.inl ⟨rfl, rfl, h⟩), fun h => by rcases h with h | h | h <;> first | exact h.2.2 | omega⟩⟩)
       generalize E.nameP n = np at *
       clear HTT hb1
       go_wp2_with fail
       refine hin.mono ?_
       rintro e w4 ⟨rfl, hb4⟩
       go_wp2
       go_ret
       exact ⟨HF.out _ rfl, nx hbd hb4⟩
     · have es : ((s.length : Int) == 0) = false := by
         have : s.length ≠ 0 := fun h => hs0 (List.eq_nil_of_length_eq_zero h)
         simp; omega
       have HF := hide (HTT.out (.returned (.bool false)) (U.told_no (by rintro (h | h | h) <;> first | exact hs0 h.2.1 | omega)))
       clear HTT hb1 hs0
       go_wp2
       go_ret
       exact ⟨HF.out, hbd⟩
   have e2 : (k == 2) = false := by simp [k2]
   by_cases k38 : 3 ≤ k ∧ k ≤ 8
   · have hk8 : k = 3 ∨ k = 4 ∨ k = 5 ∨ k = 6 ∨ k = 7 ∨ k = 8 := by omega
     clear e1 e2 k1 k2 k38
     by_cases hs0 : s = []
     · subst hs0
       have HF := hide (fun b (h : b = (n == [])) => HTT.out (.returned (.bool b)) ⟨b, rfl, by rw [h]; exact ⟨fun h => .inr (.inr ⟨by omega, by omega, rfl, by simpa using h⟩), fun h => by rcases h with h | h | h <;> first | (simpa using h.2.2.2) | omega⟩⟩)
       clear HTT hb1
       rcases hk8 with rfl | rfl | rfl | rfl | rfl | rfl
       all_goals
         go_wp2
         go_ret
         exact ⟨HF.out _ (by cases n <;> rfl), hbd⟩
     · have es : ((s.length : Int) == 0) = false := by
         have : s.length ≠ 0 := fun h => hs0 (List.eq_nil_of_length_eq_zero h)
         simp; omega
       have HF := hide (HTT.out (.returned (.bool false)) (U.told_no (by rintro (h | h | h) <;> first | exact hs0 h.2.2.1 | omega)))
       clear HTT hb1 hs0
       rcases hk8 with rfl | rfl | rfl | rfl | rfl | rfl
       all_goals
         go_wp2
         go_ret
         exact ⟨HF.out, hbd⟩
   · have f3 : (k == 3) = false := by simp; omega
     have f4 : (k == 4) = false := by simp; omega
     have f5 : (k == 5) = false := by simp; omega
     have f6 : (k == 6) = false := by simp; omega
     have f7 : (k == 7) = false := by simp; omega
     have f8 : (k == 8) = false := by simp; omega
     have HF := hide (HTT.out (.returned (.bool false)) (U.told_no (by rintro (h | h | h) <;> omega)))
     clear HTT hb1 k38 k1 k2
     go_wp2
     go_ret
     exact ⟨HF.out, hbd⟩
 · have hne : ((ks.length : Int) != E.kidsOf k) = true := by simp [hk]
   have HF : ∀ e, e = .returned (.bool false) → U.Told (E.NodeOk (.mk k a s n ks)) e := fun e he => he ▸ U.told_no (fun h => hk h.1)
   have HFF := hide HF
   clear HF hk
   generalize E.kidsOf k = kk at *
   have hbox := heap_alloc_new w (.cells #[.int .i64 k, .int .i64 a, .slice sp s.length sc, .string ⟨n.toArray⟩, .slice kp ks.length kc] 25)
   obtain ⟨w1, hw1⟩ : ∃ w1, w.alloc (.cells #[.int .i64 k, .int .i64 a, .slice sp s.length sc, .string ⟨n.toArray⟩, .slice kp ks.length kc] 25) = w1 := ⟨_, rfl⟩
   rw [hw1] at hbox hbx
   have hlt : w.heap.size < w1.heap.size := (Array.getElem?_eq_some_iff.1 hbox).1
   obtain ⟨c0, c1, c2, c3, c4⟩ := cells_five hbox
   have hrd1 := hrd.later hbx
   have ht1 := ht.later hbx
   go_enter Tryz.func59, Tryz.ntmps59
   go_wp2_with fail
   refine Reg.start (B := w1.heap.size) (by kernel_rfl) ?_
   refine Reg.take (fun _ _ _ _ _ h => h) 0 _ 3 (.pointer (some ⟨w.heap.size, 4, none⟩)) rfl (by kernel_rfl) (by kernel_rfl) (by kernel_rfl) rfl (by kernel_rfl) (by kernel_rfl) (fun wx hb => by kernel_rfl) ?_
   refine Reg.take (fun _ _ _ _ _ h => h) 1 _ 4 (.slice kp ks.length kc) rfl (by kernel_rfl) (by kernel_rfl) (by kernel_rfl) rfl (by kernel_rfl) (by kernel_rfl) (fun wx hb => Reg.ld1 rfl (by kernel_rfl) ((hb.cell (p := ⟨w.heap.size, 4, none⟩) hlt).trans c4) (Tryz.isAgg23 _)) ?_
   refine Reg.take (fun _ _ _ _ _ h => h) 2 _ 5 (.int .i64 (ks.length : Int)) rfl (by kernel_rfl) (by kernel_rfl) (by kernel_rfl) rfl (by kernel_rfl) (by kernel_rfl) (fun wx hb => by kernel_rfl) ?_
   refine Reg.take (fun _ _ _ _ _ h => h) 3 _ 6 (.pointer (some ⟨w.heap.size, 0, none⟩)) rfl (by kernel_rfl) (by kernel_rfl) (by kernel_rfl) rfl (by kernel_rfl) (by kernel_rfl) (fun wx hb => by kernel_rfl) ?_
   refine Reg.take (fun _ _ _ _ _ h => h) 4 _ 7 (.int .i64 k) rfl (by kernel_rfl) (by kernel_rfl) (by kernel_rfl) rfl (by kernel_rfl) (by kernel_rfl) (fun wx hb => Reg.ld1 rfl (by kernel_rfl) ((hb.cell (p := ⟨w.heap.size, 0, none⟩) hlt).trans c0) (Tryz.isAgg3 _)) ?_
   refine Reg.call 5 _ 8 91 _ _ #[.int .i64 k] rfl (by kernel_rfl) rfl (by kernel_rfl) (by kernel_rfl) rfl (by kernel_rfl) (by kernel_rfl) (hko w1.drew) ?_
   rintro e w2 ⟨rfl, rfl⟩
   refine ⟨_, w1.heap.size, rfl, Nat.le_refl _, Below.refl _ _, ?_⟩
   refine Reg.only 6 _ 9 rfl (by kernel_rfl) rfl (by kernel_rfl) (by kernel_rfl) ⟨.bool ((ks.length : Int) != kk), w1.drew, w1.heap.size, Reg.neI (k := .i64) rfl (by kernel_rfl) (by kernel_rfl), Nat.le_refl _, Below.refl _ _, ?_⟩
   refine Reg.done (by kernel_rfl) ?_
   simp only [Reg.ov, Act.put, List.setIfInBounds_toArray, List.set_cons_succ, List.set_cons_zero]
   rw [hne]
   have hbd : Below w.heap.size w w1.drew := hbx.drew
   go_wp2
   go_ret
   exact ⟨HFF.out _ rfl, hbd⟩
end Go.Proofs.YtgngaldoemopjaaGreatDoor
namespace Go.Proofs.YtgngaldoemopjaaGreatDoor
open Go.RowKit Go.Shelf
open E (T)
attribute [local go_sem] Oper.semAt_some
namespace E
def IsP (t : T) : Prop := (pre t t).length ≤ 400 ∧ ∀ p ∈ pre t t, NodeOk p.1
end E
theorem res_cell {fn : Func} {p : Tmp} {ty : TypeId} (h : fn.results = #[.cell p ty]) (tmps : Array Value) (P : Program) (w : World) :
   (results fn tmps).run P w = ((asAddr (tmps.getD p undef)).run P w).andThen fun a w₁ => (loadVar ty a).run P w₁ := by
 simp only [results, h]
 simp [Sem.run_bind, Result.andThen]
theorem res13 (tmps : Array Value) (W : World) (n : Nat) (b : Bool) (h : tmps.getD 2 undef = .pointer (some ⟨n, 0, none⟩)) (hc : W.cell? ⟨n, 0, none⟩ = some (.bool b)) :
   (results Tryz.f34 tmps).run Tryz.prog W = .ok (.bool b) W := by
 rw [res_cell (p := 2) (ty := 4) rfl, h]
 simp [asAddr, loadVar, Sem.run_bind, Result.andThen, go_sem, hc]
set_option maxRecDepth 100000 in
set_option maxHeartbeats 8000000 in
theorem is_in (t : T) (d : ND) (w : World) (htab : Tabs w) (hT : TR w (fun _ => True) t d.v) (hps : (E.pre t t).length ≤ 1000000) (hnb : ∀ p ∈ E.pre t t, E.NodeB p.1) :
   CallsIn Fence.wide 9 Tryz.prog 34 #[d.v] w fun e W' => U.Told (E.IsP t) e ∧ Below w.heap.size w W' := by
 have hmk := fun W => nodes_make d W
 unfold ND.v at hmk
 refine callsIn_of_wp_marks Tryz.func34 rfl trivial ?_ rfl
 simp only [ND.v, Tryz.ntmps34, List.size_toArray, List.length_cons, List.length_nil, Nat.reduceAdd, Nat.reduceSub, Array.replicate_succ, Array.replicate_zero, List.push_toArray, List.append_toArray, List.nil_append, List.cons_append]
 gi_wp2_with (refine ⟨trivial, ?_⟩; gi_at_call 58; refine (callsIn_wide.2 (hmk _)).mono ?_; rintro e w2 ⟨rfl, rfl⟩)
 have a1 := al1 w (.cells #[.int .i64 d.k, .int .i64 d.a, .slice d.sp d.sl d.sc, .string d.n, .slice d.kp d.kl d.kc] 25)
 have s1 : (w.alloc (.cells #[.int .i64 d.k, .int .i64 d.a, .slice d.sp d.sl d.sc, .string d.n, .slice d.kp d.kl d.kc] 25)).heap.size = w.heap.size + 1 := by simp
 obtain ⟨X1, hX1⟩ : ∃ X1, w.alloc (.cells #[.int .i64 d.k, .int .i64 d.a, .slice d.sp d.sl d.sc, .string d.n, .slice d.kp d.kl d.kc] 25) = X1 := ⟨_, rfl⟩
 rw [hX1] at a1 s1 ⊢
 have a2 := al1 X1 (.cells #[.bool false] 4)
 have n2 := heap_alloc_new X1 (.cells #[.bool false] 4)
 have s2 : (X1.alloc (.cells #[.bool false] 4)).heap.size = w.heap.size + 2 := by simp [s1]
 obtain ⟨X2, hX2⟩ : ∃ X2, X1.alloc (.cells #[.bool false] 4) = X2 := ⟨_, rfl⟩
 rw [hX2] at a2 n2 s2 ⊢
 rw [s1] at n2
 have a3 := al1 X2 (.cells #[.int .i64 0] 3)
 have n3 := heap_alloc_new X2 (.cells #[.int .i64 0] 3)
 have s3 : (X2.alloc (.cells #[.int .i64 0] 3)).heap.size = w.heap.size + 3 := by simp [s2]
 obtain ⟨X3, hX3⟩ : ∃ X3, X2.alloc (.cells #[.int .i64 0] 3) = X3 := ⟨_, rfl⟩
 rw [hX3] at a3 n3 s3 ⊢
 rw [s2] at n3
 have a4 := al1 X3 (.cells #[.int .i64 d.k, .int .i64 d.a, .slice d.sp d.sl d.sc, .string d.n, .slice d.kp d.kl d.kc] 25)
 have n4 := heap_alloc_new X3 (.cells #[.int .i64 d.k, .int .i64 d.a, .slice d.sp d.sl d.sc, .string d.n, .slice d.kp d.kl d.kc] 25)
 have s4 : (X3.alloc (.cells #[.int .i64 d.k, .int .i64 d.a, .slice d.sp d.sl d.sc, .string d.n, .slice d.kp d.kl d.kc] 25)).heap.size = w.heap.size + 4 := by simp [s3]
 obtain ⟨X4, hX4⟩ : ∃ X4, X3.alloc (.cells #[.int .i64 d.k, .int .i64 d.a, .slice d.sp d.sl d.sc, .string d.n, .slice d.kp d.kl d.kc] 25) = X4 := ⟨_, rfl⟩
 rw [hX4] at a4 n4 s4 ⊢
 rw [s3] at n4
 have n3' := (a4.block (w.heap.size + 2) (by omega)).trans n3
 have n2' := ((nx a3 a4).block (w.heap.size + 1) (by omega)).trans n2
 have bX := nx a1 (nx a2 (nx a3 a4))
 have z3 : w.heap.size + 4 ≤ X4.heap.size := by omega
 clear hX1 hX2 hX3 hX4 a1 a2 a3 a4 n2 n3 s1 s2 s3 s4
 refine enter3 (gf := 89) (lb := #[.pointer (some ⟨w.heap.size + 1 + 1 + 1, 0, none⟩)]) rfl (enters_of Tryz.func89 (by kernel_rfl) rfl) ?_
 intro r We hr hrec hdef hszE hbE
 have bE := nx bX hbE
 refine (nodes_in 8 (by omega) w t d hT hps (w.heap.size + 3) (w.heap.size + 3) (X4.heap.size + 1) (by omega) (Nat.le_refl _)
   (fun i A => A.heap[w.heap.size + 1]? = some (.cells #[.bool false] 4) ∧ A.heap[w.heap.size + 2]? = some (.cells #[.int .i64 (i : Int)] 3) ∧ A.heap[X4.heap.size + 1]? = some (.loop r) ∧ A.heap[X4.heap.size]? = some (.deferred (some [])) ∧ Below w.heap.size w A ∧ i ≤ 400 ∧ ∀ p ∈ (E.pre t t).take i, E.NodeOk p.1)
   (fun _ A => A.heap[w.heap.size + 1]? = some (.cells #[.bool false] 4) ∧ (∃ rd : Loop, rd.state = .done ∧ rd.pending = some .ret ∧ A.heap[X4.heap.size + 1]? = some (.loop rd)) ∧ A.heap[X4.heap.size]? = some (.deferred (some [])) ∧ Below w.heap.size w A ∧ ¬ E.IsP t) We ((hbE.block _ (by omega)).trans n4) bE ?stable ?stops ?round (by omega) ?start).mono ?_
 case stable =>
   rintro i A A' ⟨j1, j1', j2, j3, j4, j5, j6⟩ hb
   exact ⟨(hb.below.block _ (by omega)).trans j1, (hb.below.block _ (by omega)).trans j1', (hb.below.block _ (by omega)).trans j2, (hb.below.block _ (by omega)).trans j3, j4.trans (hb.below.mono (by omega)), j5, j6⟩
 case stops =>
   rintro i A A' ⟨j1, ⟨rd, h1, h2, j2⟩, j3, j4, j5⟩ hb
   exact ⟨(hb.block _ (by omega)).trans j1, ⟨rd, h1, h2, (hb.block _ (by omega)).trans j2⟩, (hb.block _ (by omega)).trans j3, j4.trans (hb.mono (by omega)), j5⟩
 case start => exact ⟨(hbE.block _ (by omega)).trans n2', (hbE.block _ (by omega)).trans n3', hrec.out, hdef.out, bE, by omega, by simp⟩
 case round =>
   rintro i hi A d1 ⟨j1, j1', j2, j3, j4, j5, j6⟩ hle hBA ht1
   have hmem : (E.pre t t)[i] ∈ E.pre t t := List.getElem_mem hi
   have hnB := hnb _ hmem
   have HTK : Hid (∀ q ∈ (E.pre t t).take (i + 1), q ∈ (E.pre t t).take i ∨ q = (E.pre t t)[i]) := hide (by
     rw [List.take_succ_eq_append_getElem hi]
     intro q hq
     rcases List.mem_append.1 hq with h | h
     · exact .inl h
     · exact .inr (by simpa using h))
   have HNO : Hid (¬ E.NodeOk (E.pre t t)[i].1 → ¬ E.IsP t) := hide (fun h h' => h (h'.2 _ hmem))
   have HJ6 := hide j6
   clear j6 hmem
   refine yield3 hr j2 rfl ?_
   unfold ND.v
   gi_wp2
   have hl1 : X4.heap.size + 1 < A.heap.size := (Array.getElem?_eq_some_iff.1 j2).1
   have ha := al1 A (.cells #[.int .i64 d1.k, .int .i64 d1.a, .slice d1.sp d1.sl d1.sc, .string d1.n, .slice d1.kp d1.kl d1.kc] 25)
   have hx3 := heap_alloc_new A (.cells #[.int .i64 d1.k, .int .i64 d1.a, .slice d1.sp d1.sl d1.sc, .string d1.n, .slice d1.kp d1.kl d1.kc] 25)
   refine ⟨(ha.block _ hl1).trans j2, ?_⟩
   intro rb
   have hne : ∀ k, k ≠ X4.heap.size + 1 → ((A.alloc (.cells #[.int .i64 d1.k, .int .i64 d1.a, .slice d1.sp d1.sl d1.sc, .string d1.n, .slice d1.kp d1.kl d1.kc] 25)).putObj (X4.heap.size + 1) (.loop rb)).heap[k]? = (A.alloc (.cells #[.int .i64 d1.k, .int .i64 d1.a, .slice d1.sp d1.sl d1.sc, .string d1.n, .slice d1.kp d1.kl d1.kc] 25)).heap[k]? := fun k hk => World.putObj_heap_other hk
   have k3 : Hid (((A.alloc (.cells #[.int .i64 d1.k, .int .i64 d1.a, .slice d1.sp d1.sl d1.sc, .string d1.n, .slice d1.kp d1.kl d1.kc] 25)).putObj (X4.heap.size + 1) (.loop rb)).heap[X4.heap.size + 1]? = some (.loop rb)) := World.putObj_heap_same (by simp; omega)
   have k1 := (hne (w.heap.size + 1) (by omega)).trans ((ha.block _ (by omega)).trans j1)
   have k1' := (hne (w.heap.size + 2) (by omega)).trans ((ha.block _ (by omega)).trans j1')
   have kx := (hne A.heap.size (by omega)).trans hx3
   have ksame : Hid (∀ k, k < A.heap.size → k ≠ X4.heap.size + 1 → ((A.alloc (.cells #[.int .i64 d1.k, .int .i64 d1.a, .slice d1.sp d1.sl d1.sc, .string d1.n, .slice d1.kp d1.kl d1.kc] 25)).putObj (X4.heap.size + 1) (.loop rb)).heap[k]? = A.heap[k]?) := hide (fun k hk hk' => (hne k hk').trans (ha.block k hk))
   have kz : A.heap.size < ((A.alloc (.cells #[.int .i64 d1.k, .int .i64 d1.a, .slice d1.sp d1.sl d1.sc, .string d1.n, .slice d1.kp d1.kl d1.kc] 25)).putObj (X4.heap.size + 1) (.loop rb)).heap.size := (Array.getElem?_eq_some_iff.1 kx).1
   have kb : Below w.heap.size A ((A.alloc (.cells #[.int .i64 d1.k, .int .i64 d1.a, .slice d1.sp d1.sl d1.sc, .string d1.n, .slice d1.kp d1.kl d1.kc] 25)).putObj (X4.heap.size + 1) (.loop rb)) := (ha.mono (by omega)).trans (below_put _ _ (by omega))
   obtain ⟨A1, hA1⟩ : ∃ A1, (A.alloc (.cells #[.int .i64 d1.k, .int .i64 d1.a, .slice d1.sp d1.sl d1.sc, .string d1.n, .slice d1.kp d1.kl d1.kc] 25)).putObj (X4.heap.size + 1) (.loop rb) = A1 := ⟨_, rfl⟩
   rw [hA1] at k3 k1 k1' kx kb ksame kz ⊢
   clear hA1 hne ha hx3
   have HJ2 := hide j2
   have HJ3 := hide j3
   have HJ4 := hide j4
   have l1 := (Below.heap_setCell A1 ⟨w.heap.size + 2, 0, none⟩ (.int .i64 ((i : Int) + 1)) (w.heap.size + 1) (by show w.heap.size + 1 ≠ w.heap.size + 2; omega)).trans k1
   have l1' : (A1.setCell ⟨w.heap.size + 2, 0, none⟩ (.int .i64 ((i : Int) + 1))).heap[w.heap.size + 2]? = some (.cells #[.int .i64 ((i : Int) + 1)] 3) := by simp [World.setCell, Array.getElem?_modify, k1']
   have lx := (Below.heap_setCell A1 ⟨w.heap.size + 2, 0, none⟩ (.int .i64 ((i : Int) + 1)) A.heap.size (by show A.heap.size ≠ w.heap.size + 2; omega)).trans kx
   have l3 := hide ((Below.heap_setCell A1 ⟨w.heap.size + 2, 0, none⟩ (.int .i64 ((i : Int) + 1)) (X4.heap.size + 1) (by show X4.heap.size + 1 ≠ w.heap.size + 2; omega)).trans k3.out)
   have lsame : Hid (∀ k, k < A.heap.size → k ≠ X4.heap.size + 1 → k ≠ w.heap.size + 2 → (A1.setCell ⟨w.heap.size + 2, 0, none⟩ (.int .i64 ((i : Int) + 1))).heap[k]? = A.heap[k]?) := hide (fun k hk hk' h2 => (Below.heap_setCell A1 ⟨w.heap.size + 2, 0, none⟩ _ k h2).trans (ksame.out k hk hk'))
   have lb : Below w.heap.size A (A1.setCell ⟨w.heap.size + 2, 0, none⟩ (.int .i64 ((i : Int) + 1))) := kb.setCell (p := ⟨w.heap.size + 2, 0, none⟩) (by show w.heap.size ≤ w.heap.size + 2; omega) _
   have cc1 : A1.cell? ⟨w.heap.size + 2, 0, none⟩ = some (.int .i64 (i : Int)) := by simp [World.cell?, k1']
   have cf1 : A1.frozen? ⟨w.heap.size + 2, 0, none⟩ = false := by simp [World.frozen?, k1']
   have lz : A.heap.size < (A1.setCell ⟨w.heap.size + 2, 0, none⟩ (.int .i64 ((i : Int) + 1))).heap.size := (Array.getElem?_eq_some_iff.1 lx).1
   obtain ⟨A2, hA2⟩ : ∃ A2, A1.setCell ⟨w.heap.size + 2, 0, none⟩ (.int .i64 ((i : Int) + 1)) = A2 := ⟨_, rfl⟩
   rw [hA2] at l1 l1' lx l3 lsame lb lz
   obtain ⟨q0, q1, q2, q3, q4⟩ := cells_five lx
   have dd1 : A2.cell? ⟨w.heap.size + 2, 0, none⟩ = some (.int .i64 ((i : Int) + 1)) := by simp [World.cell?, l1']
   have bb1 : A2.cell? ⟨w.heap.size + 1, 0, none⟩ = some (.bool false) := by simp [World.cell?, l1]
   have bf1 : A2.frozen? ⟨w.heap.size + 1, 0, none⟩ = false := by simp [World.frozen?, l1]
   clear kb ksame kx kz k1 k1' k3 j1 j1' j2 j3
   have hB2 := j4.trans lb
   have stp : ∀ (W4 : World), W4.heap[w.heap.size + 1]? = some (.cells #[.bool false] 4) → (∀ k, k ≠ w.heap.size + 1 → k < A2.heap.size → W4.heap[k]? = A2.heap[k]?) → A2.heap.size ≤ W4.heap.size → (W4.os = A2.os ∧ W4.tape = A2.tape ∧ W4.output = A2.output) → ¬ E.IsP t →
       W4.heap[X4.heap.size + 1]? = some (.loop rb) ∧ ∀ rd : Loop, rd.state = .done → rd.pending = some .ret → (∀ k, w.heap.size + 3 ≤ k → k < A.heap.size → k ≠ X4.heap.size + 1 → (W4.putObj (X4.heap.size + 1) (.loop rd)).heap[k]? = A.heap[k]?) ∧ ((W4.putObj (X4.heap.size + 1) (.loop rd)).heap[w.heap.size + 1]? = some (.cells #[.bool false] 4) ∧ (∃ rd' : Loop, rd'.state = .done ∧ rd'.pending = some .ret ∧ (W4.putObj (X4.heap.size + 1) (.loop rd)).heap[X4.heap.size + 1]? = some (.loop rd')) ∧ (W4.putObj (X4.heap.size + 1) (.loop rd)).heap[X4.heap.size]? = some (.deferred (some [])) ∧ Below w.heap.size w (W4.putObj (X4.heap.size + 1) (.loop rd)) ∧ ¬ E.IsP t) := by
     intro W4 h1 h2 h3 h4 h5
     have m3 := (h2 (X4.heap.size + 1) (by omega) (by omega)).trans l3.out
     refine ⟨m3, fun rd e1 e2 => ?_⟩
     have hnp : ∀ k, k ≠ X4.heap.size + 1 → (W4.putObj (X4.heap.size + 1) (.loop rd)).heap[k]? = W4.heap[k]? := fun k hk => World.putObj_heap_other hk
     have hsame : (W4.putObj (X4.heap.size + 1) (.loop rd)).heap[X4.heap.size + 1]? = some (.loop rd) := World.putObj_heap_same (Array.getElem?_eq_some_iff.1 m3).1
     have hlow : Below w.heap.size A (W4.putObj (X4.heap.size + 1) (.loop rd)) := ⟨h4.1.trans lb.os, h4.2.1.trans lb.tape, h4.2.2.trans lb.output, by rw [World.putObj_size]; omega, fun k hk => by rw [hnp k (by omega), h2 k (by omega) (by omega)]; exact lb.block k hk⟩
     exact ⟨fun k hk hk' he => by rw [hnp k he, h2 k (by omega) (by omega)]; exact lsame.out k hk' he (by omega), (hnp _ (by omega)).trans h1, ⟨rd, e1, e2, hsame⟩, by rw [hnp _ (by omega), h2 _ (by omega) (by omega), lsame.out _ (by omega) (by omega) (by omega)]; exact HJ3.out, HJ4.out.trans hlow, h5⟩
   have STP := hide stp
   clear stp
   by_cases h400 : i + 1 ≤ 400
   · have e400 : decide ((400 : Int) < (i : Int) + 1) = false := by simp; omega
     have hin := isNode_any (E.pre t t)[i].1 d1 A2 (htab.later hB2) (TR.later (fun k hk => hB2.block k hk) _ ht1) hnB
     unfold ND.v at hin
     have L3 := hide l3.out
     have L1 := hide l1
     have L1' := hide l1'
     gi_wp2_with fail
     refine ⟨trivial, ?_⟩
     refine (CallsIn.inRound (X4.heap.size + 1) (callsIn_wide.2 hin)).mono ?_
     rintro e A3 ⟨⟨b, rfl, hb⟩, hb3⟩
     have g1 := (hb3.block _ (by omega)).trans L1.out
     have g1' := (hb3.block _ (by omega)).trans L1'.out
     have g3 := hide ((hb3.block _ (by omega)).trans L3.out)
     have gz := hb3.size
     have gs : Hid (∀ k, k < A.heap.size → k ≠ X4.heap.size + 1 → k ≠ w.heap.size + 2 → A3.heap[k]? = A.heap[k]?) := hide (fun k hk h1 h2 => (hb3.block k (by omega)).trans (lsame.out k hk h1 h2))
     have gb : Hid (Below w.heap.size A A3) := hide (lb.trans (hb3.mono (by omega)))
     have HB := hide hb
     have HB3 := hide hb3
     clear hb hb3 hin
     have c1 : A3.cell? ⟨w.heap.size + 1, 0, none⟩ = some (.bool false) := by simp [World.cell?, g1]
     have c2 : A3.frozen? ⟨w.heap.size + 1, 0, none⟩ = false := by simp [World.frozen?, g1]
     cases b with
     | true =>
       have hok := HB.out.1 rfl
       clear HB
       gi_wp2
       have hnp : ∀ k, k ≠ X4.heap.size + 1 → (A3.putObj (X4.heap.size + 1) (.loop r)).heap[k]? = A3.heap[k]? := fun k hk => World.putObj_heap_other hk
       have hsame : (A3.putObj (X4.heap.size + 1) (.loop r)).heap[X4.heap.size + 1]? = some (.loop r) := World.putObj_heap_same (Array.getElem?_eq_some_iff.1 g3.out).1
       have hlow : Below w.heap.size A (A3.putObj (X4.heap.size + 1) (.loop r)) := gb.out.trans (below_put (n := w.heap.size) A3 (.loop r) (show w.heap.size ≤ X4.heap.size + 1 by omega))
       refine ⟨g3.out, .inl ⟨rfl, ⟨hlow.os, hlow.tape, hlow.output, hlow.size, hlow.block, fun k hk hk' _ => ?_⟩, (hnp _ (by omega)).trans g1, (hnp _ (by omega)).trans g1', hsame, ?_, HJ4.out.trans hlow, by omega, ?_⟩⟩
       · by_cases he : k = X4.heap.size + 1
         · rw [he, hsame]; exact HJ2.out.symm
         · rw [hnp k he]
           exact gs.out k hk' he (by omega)
       · rw [hnp _ (by omega), gs.out _ (by omega) (by omega) (by omega)]; exact HJ3.out
       · intro q q' hq
         rcases HTK.out _ hq with h | h
         · exact HJ6.out _ h
         · rw [← h] at hok; exact hok
     | false =>
       have hno := HNO.out (fun h => by have := HB.out.2 h; cases this)
       have HN := hide hno
       clear HB hno
       gi_wp2
       obtain ⟨m3, hs⟩ := STP.out (A3.setCell ⟨w.heap.size + 1, 0, none⟩ (.bool false)) (by simp [World.setCell, Array.getElem?_modify, g1]) (fun k hk hk' => (Below.heap_setCell A3 ⟨w.heap.size + 1, 0, none⟩ _ k hk).trans (HB3.out.block k hk')) (by simpa [World.setCell] using gz) ⟨HB3.out.os, HB3.out.tape, HB3.out.output⟩ HN.out
       exact ⟨m3, fun rd e1 e2 => .inr ⟨rfl, hs rd e1 e2⟩⟩
   · have e400 : decide ((400 : Int) < (i : Int) + 1) = true := by simp; omega
     have HNI : Hid (¬ E.IsP t) := hide (fun h => by have := h.1; omega)
     gi_wp2
     refine ⟨trivial, ?_⟩
     gi_wp2
     obtain ⟨m3, hs⟩ := STP.out (A2.setCell ⟨w.heap.size + 1, 0, none⟩ (.bool false)) (by simp [World.setCell, Array.getElem?_modify, l1]) (fun k hk _ => Below.heap_setCell A2 ⟨w.heap.size + 1, 0, none⟩ _ k hk) (by simp [World.setCell]) ⟨rfl, rfl, rfl⟩ HNI.out
     exact ⟨m3, fun rd e1 e2 => .inr ⟨rfl, hs rd e1 e2⟩⟩
 rintro e W' ⟨hv, h⟩
 refine ⟨hv, ?_⟩
 rcases h with ⟨j1, j1', j2, j3, j4, j5, j6⟩ | ⟨_, _, j1, ⟨rd, e1, e2, j2⟩, j3, j4, j5⟩
 · have HY : Hid (E.IsP t) := hide ⟨j5, fun p hp => j6 p (by rw [List.take_length]; exact hp)⟩
   refine .inl ⟨j2, fun r' => ?_⟩
   have hnp : ∀ k, k ≠ X4.heap.size + 1 → (W'.putObj (X4.heap.size + 1) (.loop r')).heap[k]? = W'.heap[k]? := fun k hk => World.putObj_heap_other hk
   have k1 := (hnp (w.heap.size + 1) (by omega)).trans j1
   have k3 := (hnp X4.heap.size (by omega)).trans j3
   have k4 := j4.trans (below_put (n := w.heap.size) W' (.loop r') (show w.heap.size ≤ X4.heap.size + 1 by omega))
   clear j1 j1' j2 j3 j4 j5 j6 hnp
   generalize W'.putObj (X4.heap.size + 1) (.loop r') = W9 at *
   have c1 : W9.cell? ⟨w.heap.size + 1, 0, none⟩ = some (.bool false) := by simp [World.cell?, k1]
   have c2 : W9.frozen? ⟨w.heap.size + 1, 0, none⟩ = false := by simp [World.frozen?, k1]
   gi_wp2
   have k3' := (Below.heap_setCell W9 ⟨w.heap.size + 1, 0, none⟩ (.bool true) X4.heap.size (by show X4.heap.size ≠ w.heap.size + 1; omega)).trans k3
   have k1' : ((W9.setCell ⟨w.heap.size + 1, 0, none⟩ (.bool true)).putObj X4.heap.size (.deferred none)).heap[w.heap.size + 1]? = some (.cells #[.bool true] 4) := by
     rw [World.putObj_heap_other (by omega)]
     simp [World.setCell, Array.getElem?_modify, k1]
   refine ⟨by simp, .inl ⟨_, _, rfl, run_takeDeferred k3', ?_⟩⟩
   exact ⟨_, res13 _ _ (w.heap.size + 1) true rfl (by simp [World.cell?, k1']), U.told_yes HY.out, (k4.setCell (p := ⟨w.heap.size + 1, 0, none⟩) (by show w.heap.size ≤ w.heap.size + 1; omega) _).trans (below_put _ _ (by omega))⟩
 · have HN := hide j5
   refine .inr ⟨rd, e1, e2, j2, fun r' => ?_⟩
   have hnp : ∀ k, k ≠ X4.heap.size + 1 → (W'.putObj (X4.heap.size + 1) (.loop r')).heap[k]? = W'.heap[k]? := fun k hk => World.putObj_heap_other hk
   have k1 := (hnp (w.heap.size + 1) (by omega)).trans j1
   have k3 := (hnp X4.heap.size (by omega)).trans j3
   have k4 := j4.trans (below_put (n := w.heap.size) W' (.loop r') (show w.heap.size ≤ X4.heap.size + 1 by omega))
   clear j1 j2 j3 j4 j5 hnp
   generalize W'.putObj (X4.heap.size + 1) (.loop r') = W9 at *
   have c1 : W9.cell? ⟨w.heap.size + 1, 0, none⟩ = some (.bool false) := by simp [World.cell?, k1]
   gi_wp2
   have k1' : (W9.putObj X4.heap.size (.deferred none)).heap[w.heap.size + 1]? = some (.cells #[.bool false] 4) := by
     rw [World.putObj_heap_other (by omega)]
     exact k1
   refine ⟨by simp, .inl ⟨_, _, rfl, run_takeDeferred k3, ?_⟩⟩
   exact ⟨_, res13 _ _ (w.heap.size + 1) false rfl (by simp [World.cell?, k1']), U.told_no HN.out, k4.trans (below_put _ _ (by omega))⟩
theorem is_any7 (t : T) (d : ND) (w : World) (htab : Tabs w) (hT : TR w (fun _ => True) t d.v) (hps : (E.pre t t).length ≤ 1000000) (hnb : ∀ p ∈ E.pre t t, E.NodeB p.1) :
  Calls Tryz.prog 34 #[d.v] w fun e W' => U.Told (E.IsP t) e ∧ Below w.heap.size w W' := callsIn_wide.1 (is_in t d w htab hT hps hnb)
end Go.Proofs.YtgngaldoemopjaaGreatDoor
namespace Go.Proofs.YtgngaldoemopjaaGreatDoor
open Go.ChangeShapes Go.WideShapes Go.ChangeAt Go.RowKit
open E (T)
theorem preK_self : ∀ ks : List T, E.preK ks ks = ks.flatMap fun x => E.pre x x
 | [] => by rw [E.preK_nil]; rfl
 | x :: xs => by rw [E.preK_cons, preK_self xs, List.flatMap_cons]
theorem pre_self (t : T) : E.pre t t = (t, t) :: t.kids.flatMap fun x => E.pre x x := by rw [E.pre_eq, preK_self]
end Go.Proofs.YtgngaldoemopjaaGreatDoor
namespace Go.Proofs.YtgngaldoemopjaaGreatDoor
open Go.RowKit Go.Shelf
open E (T)
attribute [local go_sem] Oper.semAt_some
theorem kr_get {w : World} {ok : Nat → Prop} {kp : Option Addr} : ∀ (ts : List T) (j : Nat), KR w ok ts kp j → ∀ i (h : i < ts.length), ∃ b off v, kp = some ⟨b, off, none⟩ ∧ TR w ok ts[i] v ∧ Cells5 w b (off + (j + i) * 5) v
 | [], _, _, i, h => by simp at h
 | t :: ts, j, hk, i, h => by
   rw [KR] at hk
   obtain ⟨⟨b, off, v, e, _, h1, h2⟩, h3⟩ := hk
   cases i with
   | zero => exact ⟨b, off, v, e, h1, by simpa using h2⟩
   | succ i =>
     obtain ⟨b', off', v', e', h1', h2'⟩ := kr_get ts (j + 1) h3 i (by simpa using h)
     exact ⟨b', off', v', e', by simpa using h1', by rw [show j + (i + 1) = j + 1 + i by omega]; exact h2'⟩
end Go.Proofs.YtgngaldoemopjaaGreatDoor
