/- kidsOf, isName, isNode of regex. -/
import Derived.Test.YtemanednddhfaaaGreatDoorPar
import Derived.Test.YtemanednddhfaaaGreatDoorUIs
namespace Go.Proofs.YtemanednddhfaaaGreatDoor
open Go.RowKit
open E (T)
theorem scan_ne (at_ : Nat) (s : List UInt8) : ∀ l, X.scan at_ s = .ok l → 0 < l.length := by
 refine X.scan_ind (p := fun at_ s => ∀ l, X.scan at_ s = .ok l → 0 < l.length) ?_ ?_ ?_ ?_ ?_ at_ s
 · intro at_ l h
   rw [X.scan_nil] at h
   cases h
   simp
 · intro at_ c u hb ih l h
   rw [X.scan_blank _ _ hb] at h
   exact ih l h
 · intro at_ u ih l h
   rw [X.scan_com] at h
   exact ih l h
 · intro at_ c u hb hc hn l h
   rw [X.scan_none _ _ hb hc hn] at h
   cases h
 · intro at_ c u t n hb hc hn ih l h
   rw [X.scan_some _ _ hb hc hn] at h
   cases hr : X.scan (at_ + n) ((c :: u).drop n) with
   | error e => rw [hr] at h; cases h
   | ok m =>
     rw [hr] at h
     cases h
     simp
namespace E
def kidsOf (k : Int) : Int := if k = 4 ∨ k = 5 then 2 else if k = 6 ∨ k = 7 ∨ k = 8 then 1 else 0
def nameP (n : List UInt8) : Bool :=
 decide (n.length ≤ 20) && match X.scan 0 (36 :: n) with
   | .ok (x :: _) => decide (x.1.kind = 1) && x.1.text == n
   | _ => false
def NodeOk (t : T) : Prop := (t.kids.length : Int) = kidsOf t.kind ∧
 ((t.kind = 1 ∧ t.name = [] ∧ t.set.length ≤ 200 ∧ U.S.Canon t.set) ∨ (t.kind = 2 ∧ t.set = [] ∧ nameP t.name = true) ∨ (3 ≤ t.kind ∧ t.kind ≤ 8 ∧ t.set = [] ∧ t.name = []))
def NodeB (t : T) : Prop := (∀ r ∈ t.set, -2147483648 ≤ r.1 ∧ r.1 ≤ 2147483647 ∧ -2147483648 ≤ r.2 ∧ r.2 ≤ 2147483647) ∧ t.name.length ≤ 9223372036854775807 ∧ t.set.length ≤ 9223372036854775807 ∧ t.kids.length ≤ 9223372036854775807
end E
theorem kidsOf_any (k : Int) (w : World) : Calls Tryz.prog 111 #[.int .i64 k] w fun e w' => e = .returned (.int .i64 (E.kidsOf k)) ∧ w' = w := by
 unfold E.kidsOf
 by_cases k4 : k = 4
 · subst k4
   go_enter Tryz.func111, Tryz.ntmps111
   go_wp2
   go_ret
   exact ⟨rfl, rfl⟩
 have e4 : (k == 4) = false := by simp [k4]
 by_cases k5 : k = 5
 · subst k5
   go_enter Tryz.func111, Tryz.ntmps111
   go_wp2
   go_ret
   exact ⟨rfl, rfl⟩
 have e5 : (k == 5) = false := by simp [k5]
 rw [if_neg (by omega)]
 by_cases k6 : k = 6
 · subst k6
   go_enter Tryz.func111, Tryz.ntmps111
   go_wp2
   go_ret
   exact ⟨rfl, rfl⟩
 have e6 : (k == 6) = false := by simp [k6]
 by_cases k7 : k = 7
 · subst k7
   go_enter Tryz.func111, Tryz.ntmps111
   go_wp2
   go_ret
   exact ⟨rfl, rfl⟩
 have e7 : (k == 7) = false := by simp [k7]
 by_cases k8 : k = 8
 · subst k8
   go_enter Tryz.func111, Tryz.ntmps111
   go_wp2
   go_ret
   exact ⟨rfl, rfl⟩
 have e8 : (k == 8) = false := by simp [k8]
 rw [if_neg (by omega)]
 clear k4 k5 k6 k7 k8
 go_enter Tryz.func111, Tryz.ntmps111
 go_wp2
 go_ret
 exact ⟨rfl, rfl⟩
set_option maxRecDepth 100000 in
set_option maxHeartbeats 2000000 in
theorem isName_any (s : List UInt8) (hs : s.length ≤ 9223372036854775807) (w : World) (ht : Tabs w) : Calls Tryz.prog 113 #[.string ⟨s.toArray⟩] w fun e w' => e = .returned (.bool (E.nameP s)) ∧ Below w.heap.size w w' := by
 have hsz : (⟨s.toArray⟩ : ByteArray).size = s.length := by show s.toArray.size = _; simp
 by_cases h20 : s.length ≤ 20
 · replace hs : s.length ≤ 281474976710656 := by omega
   have hcat : (⟨#[36]⟩ : ByteArray) ++ ⟨s.toArray⟩ = ⟨(36 :: s).toArray⟩ := by
     apply ByteArray.ext
     simp
   have hsc := scan_lex ⟨(36 :: s).toArray⟩ (by show (36 :: s).toArray.size ≤ 100000; simp; omega) w ht
   have hbt : bts ⟨(36 :: s).toArray⟩ = 36 :: s := rfl
   rw [hbt] at hsc
   have HN : Hid (E.nameP s = _) := hide (by unfold E.nameP; rw [decide_eq_true h20, Bool.true_and])
   generalize E.nameP s = np at *
   have hne := scan_ne 0 (36 :: s)
   generalize X.scan 0 (36 :: s) = sr at *
   have hgt : decide (20 < s.length) = false := by simp; omega
   have hgt2 : decide ((20 : Int) < (s.length : Int)) = false := by simp; omega
   have hca : (⟨#[36]⟩ : ByteArray) ++ ⟨s.toArray⟩ = ⟨#[36] ++ s.toArray⟩ := by apply ByteArray.ext; simp
   clear h20 hbt
   go_enter Tryz.func113, Tryz.ntmps113
   go_wp2_with fail
   refine hsc.mono ?_
   rintro e w1 ⟨⟨l, v, rfl, rfl, hown⟩ | ⟨at_, rfl, rfl⟩, hb1⟩
   · have hl := hne l rfl
     obtain ⟨ap, cp, rfl, _, _, hrk⟩ := hown.rd
     obtain ⟨b, off, rfl, c0, c1, c2, c3⟩ := hrk 0 hl
     have hix := elemSize74k
     cases l with
     | nil => simp at hl
     | cons x l =>
       have HN2 : Hid (np = (decide (x.1.kind = 1) && x.1.text == s)) := hide HN.out
       simp only [List.getElem_cons_zero, Nat.zero_mul, Nat.add_zero] at c0 c1 c2 c3
       rw [List.length_cons]
       obtain ⟨n, hn⟩ : ∃ n, l.length = n := ⟨_, rfl⟩
       rw [hn]
       clear hown hrk hsc HN hne hn hl
       by_cases hk : x.1.kind = 1
       · have ek : ((x.1.kind : Int) == 1) = true := by simp [hk]
         rw [decide_eq_true hk, Bool.true_and] at HN2
         clear hk
         go_wp2
         go_ret
         exact ⟨by rw [HN2.out]; rfl, hb1⟩
       · have ek : ((x.1.kind : Int) == 1) = false := by simp; omega
         rw [decide_eq_false hk, Bool.false_and] at HN2
         clear hk
         go_wp2
         go_ret
         exact ⟨by rw [HN2.out]; rfl, hb1⟩
   · have HN2 : Hid (np = false) := hide HN.out
     clear hsc HN hne
     go_wp2
     go_ret
     exact ⟨by rw [HN2.out]; rfl, hb1⟩
 · have HN : E.nameP s = false := by unfold E.nameP; rw [decide_eq_false h20, Bool.false_and]
   rw [HN]
   have hgt : decide (20 < s.length) = true := by simp; omega
   have hgt2 : decide ((20 : Int) < (s.length : Int)) = true := by simp; omega
   clear h20 HN
   go_enter Tryz.func113, Tryz.ntmps113
   go_wp2
   go_ret
   exact ⟨rfl, Below.refl _ _⟩
theorem Reg.neI {P : Program} {w : World} {ρ : Operand → Value} {o : Oper} {t t' : TypeId} {x y : Operand} {k : IntKind} {m m' : Int} (hop : o.op = .binOp .neq t x y t') (hx : ρ x = .int k m) (hy : ρ y = .int k m') :
   (execOp ρ o).run P w = .ok (.value (.bool (m != m'))) w := by
 obtain ⟨dst, op, type, pos, after, guard⟩ := o
 simp only at hop
 subst hop
 simp [execOp, hx, hy, go_sem]
theorem told_of {p q : Prop} {e : Ending} (h : U.Told p e) (hpq : p ↔ q) : U.Told q e := by
 obtain ⟨b, h1, h2⟩ := h
 exact ⟨b, h1, h2.trans hpq⟩
set_option maxRecDepth 100000 in
set_option maxHeartbeats 4000000 in
theorem isNode_any (t : T) (d : ND) (w : World) (ht : Tabs w) (hT : TR w (fun _ => True) t d.v) (hB : E.NodeB t) : Calls Tryz.prog 77 #[d.v] w fun e w' => U.Told (E.NodeOk t) e ∧ Below w.heap.size w w' := by
 cases t with
 | mk k a s n ks =>
 rw [TR] at hT
 obtain ⟨sp, sc, kp, kc, hv, hrd, hkc, hkr⟩ := hT
 obtain ⟨hb1, hb2, hb3, hb4⟩ := hB
 simp only [E.T.set, E.T.name, E.T.kids] at hb1 hb2 hb3 hb4
 rw [hv]
 clear hv hkr hkc
 have hbx := al1 w (.cells #[.int .i64 k, .int .i64 a, .slice sp s.length sc, .string ⟨n.toArray⟩, .slice kp ks.length kc] 26)
 have hko := kidsOf_any k
 have hnl : (⟨n.toArray⟩ : ByteArray).size = n.length := by show n.toArray.size = _; simp
 by_cases hk : (ks.length : Int) = E.kidsOf k
 · have hne : ((ks.length : Int) != E.kidsOf k) = false := by simp [hk]
   have HT : ∀ e, U.Told ((k = 1 ∧ n = [] ∧ s.length ≤ 200 ∧ U.S.Canon s) ∨ (k = 2 ∧ s = [] ∧ E.nameP n = true) ∨ (3 ≤ k ∧ k ≤ 8 ∧ s = [] ∧ n = [])) e → U.Told (E.NodeOk (.mk k a s n ks)) e :=
     fun e h => told_of h ⟨fun h => ⟨hk, h⟩, fun h => h.2⟩
   have HTT := hide HT
   clear HT hk
   generalize E.kidsOf k = kk at *
   have hbox := heap_alloc_new w (.cells #[.int .i64 k, .int .i64 a, .slice sp s.length sc, .string ⟨n.toArray⟩, .slice kp ks.length kc] 26)
   obtain ⟨w1, hw1⟩ : ∃ w1, w.alloc (.cells #[.int .i64 k, .int .i64 a, .slice sp s.length sc, .string ⟨n.toArray⟩, .slice kp ks.length kc] 26) = w1 := ⟨_, rfl⟩
   rw [hw1] at hbox hbx
   have hlt : w.heap.size < w1.heap.size := (Array.getElem?_eq_some_iff.1 hbox).1
   obtain ⟨c0, c1, c2, c3, c4⟩ := cells_five hbox
   have hrd1 := hrd.later hbx
   have ht1 := ht.later hbx
   go_enter Tryz.func77, Tryz.ntmps77
   go_wp2_with fail
   refine Reg.start (B := w1.heap.size) (by kernel_rfl) ?_
   refine Reg.take (fun _ _ _ _ _ h => h) 0 _ 3 (.pointer (some ⟨w.heap.size, 4, none⟩)) rfl (by kernel_rfl) (by kernel_rfl) (by kernel_rfl) rfl (by kernel_rfl) (by kernel_rfl) (fun wx hb => by kernel_rfl) ?_
   refine Reg.take (fun _ _ _ _ _ h => h) 1 _ 4 (.slice kp ks.length kc) rfl (by kernel_rfl) (by kernel_rfl) (by kernel_rfl) rfl (by kernel_rfl) (by kernel_rfl) (fun wx hb => Reg.ld1 rfl (by kernel_rfl) ((hb.cell (p := ⟨w.heap.size, 4, none⟩) hlt).trans c4) (Tryz.isAgg24 _)) ?_
   refine Reg.take (fun _ _ _ _ _ h => h) 2 _ 5 (.int .i64 (ks.length : Int)) rfl (by kernel_rfl) (by kernel_rfl) (by kernel_rfl) rfl (by kernel_rfl) (by kernel_rfl) (fun wx hb => by kernel_rfl) ?_
   refine Reg.take (fun _ _ _ _ _ h => h) 3 _ 6 (.pointer (some ⟨w.heap.size, 0, none⟩)) rfl (by kernel_rfl) (by kernel_rfl) (by kernel_rfl) rfl (by kernel_rfl) (by kernel_rfl) (fun wx hb => by kernel_rfl) ?_
   refine Reg.take (fun _ _ _ _ _ h => h) 4 _ 7 (.int .i64 k) rfl (by kernel_rfl) (by kernel_rfl) (by kernel_rfl) rfl (by kernel_rfl) (by kernel_rfl) (fun wx hb => Reg.ld1 rfl (by kernel_rfl) ((hb.cell (p := ⟨w.heap.size, 0, none⟩) hlt).trans c0) (Tryz.isAgg3 _)) ?_
   refine Reg.call 5 _ 8 111 _ _ #[.int .i64 k] rfl (by kernel_rfl) rfl (by kernel_rfl) (by kernel_rfl) rfl (by kernel_rfl) (by kernel_rfl) (hko w1.drew) ?_
   rintro e w2 ⟨rfl, rfl⟩
   refine ⟨_, w1.heap.size, rfl, Nat.le_refl _, Below.refl _ _, ?_⟩
   refine Reg.only 6 _ 9 rfl (by kernel_rfl) rfl (by kernel_rfl) (by kernel_rfl) ⟨.bool ((ks.length : Int) != kk), w1.drew, w1.heap.size, Reg.neI (k := .i64) rfl (by kernel_rfl) (by kernel_rfl), Nat.le_refl _, Below.refl _ _, ?_⟩
   refine Reg.done (by kernel_rfl) ?_
   simp only [Reg.ov, Act.put, List.setIfInBounds_toArray, List.set_cons_succ, List.set_cons_zero]
   rw [hne]
   have hbd : Below w.heap.size w w1.drew := hbx.drew
   obtain ⟨w3, hw3⟩ : ∃ w3, w1.drew = w3 := ⟨_, rfl⟩
   have c0' : w3.cell? ⟨w.heap.size, 0, none⟩ = _ := (congrArg (fun W => World.cell? W ⟨w.heap.size, 0, none⟩) hw3.symm).trans c0
   have c2' : w3.cell? ⟨w.heap.size, 2, none⟩ = _ := (congrArg (fun W => World.cell? W ⟨w.heap.size, 2, none⟩) hw3.symm).trans c2
   have c3' : w3.cell? ⟨w.heap.size, 3, none⟩ = _ := (congrArg (fun W => World.cell? W ⟨w.heap.size, 3, none⟩) hw3.symm).trans c3
   have hrd3 : U.RdR w3 sp s := hw3 ▸ (hrd1.later (Below.refl _ w1).drew)
   have ht3 : Tabs w3 := hw3 ▸ (ht1.later (Below.refl _ w1).drew)
   rw [hw3] at hbd ⊢
   clear hw3 hw1 c0 c1 c2 c3 c4 hbox hbx hrd hrd1 ht1 hne hko
   by_cases k1 : k = 1
   · subst k1
     by_cases hn0 : n = []
     · subst hn0
       by_cases h200 : s.length ≤ 200
       · have e200 : decide ((s.length : Int) ≤ 200) = true := by simp; omega
         have e200b : decide (s.length ≤ 200) = true := by simp; omega
         have his := U.is_any sp sc s hb1 (by omega) w3 hrd3
         have HF := hide (fun e (h : U.Told (U.S.Canon s) e) => HTT.out e (told_of h ⟨fun h => .inl ⟨rfl, rfl, h200, h⟩, fun h => by rcases h with h | h | h <;> first | exact h.2.2.2 | omega⟩))
         clear HTT hb1 h200
         go_wp2_with fail
         refine his.mono ?_
         rintro e w4 ⟨⟨b, rfl, hbb⟩, hb4⟩
         have HBB := hide hbb
         clear hbb
         go_wp2
         go_ret
         exact ⟨HF.out _ ⟨b, rfl, HBB.out⟩, nx hbd hb4⟩
       · have e200 : decide ((s.length : Int) ≤ 200) = false := by simp; omega
         have e200b : decide (s.length ≤ 200) = false := by simp; omega
         have HF := hide (HTT.out (.returned (.bool false)) (U.told_no (by rintro (h | h | h) <;> omega)))
         clear HTT hb1 h200
         go_wp2
         go_ret
         exact ⟨HF.out, hbd⟩
     · have en : (n == []) = false := by simpa using hn0
       have HF := hide (HTT.out (.returned (.bool false)) (U.told_no (by rintro (h | h | h) <;> first | exact hn0 h.2.1 | omega)))
       clear HTT hb1 hn0
       go_wp2
       go_ret
       exact ⟨HF.out, hbd⟩
   have e1 : (k == 1) = false := by simp [k1]
   by_cases k2 : k = 2
   · subst k2
     by_cases hs0 : s = []
     · subst hs0
       have hin := isName_any n hb2 w3 ht3
       have HF := hide (fun b (h : b = E.nameP n) => HTT.out (.returned (.bool b)) ⟨b, rfl, by rw [h]; exact ⟨fun h => .inr (.inl ⟨rfl, rfl, h⟩), fun h => by rcases h with h | h | h <;> first | exact h.2.2 | omega⟩⟩)
       generalize E.nameP n = np at *
       clear HTT hb1
       go_wp2_with fail
       refine hin.mono ?_
       rintro e w4 ⟨rfl, hb4⟩
       go_wp2
       go_ret
       exact ⟨HF.out _ rfl, nx hbd hb4⟩
     · have es : ((s.length : Int) == 0) = false := by
         have : s.length ≠ 0 := fun h => hs0 (List.eq_nil_of_length_eq_zero h)
         simp; omega
       have HF := hide (HTT.out (.returned (.bool false)) (U.told_no (by rintro (h | h | h) <;> first | exact hs0 h.2.1 | omega)))
       clear HTT hb1 hs0
       go_wp2
       go_ret
       exact ⟨HF.out, hbd⟩
   have e2 : (k == 2) = false := by simp [k2]
   by_cases k38 : 3 ≤ k ∧ k ≤ 8
   · have hk8 : k = 3 ∨ k = 4 ∨ k = 5 ∨ k = 6 ∨ k = 7 ∨ k = 8 := by omega
     clear e1 e2 k1 k2 k38
     by_cases hs0 : s = []
     · subst hs0
       have HF := hide (fun b (h : b = (n == [])) => HTT.out (.returned (.bool b)) ⟨b, rfl, by rw [h]; exact ⟨fun h => .inr (.inr ⟨by omega, by omega, rfl, by simpa using h⟩), fun h => by rcases h with h | h | h <;> first | (simpa using h.2.2.2) | omega⟩⟩)
       clear HTT hb1
       rcases hk8 with rfl | rfl | rfl | rfl | rfl | rfl
       all_goals
         go_wp2
         go_ret
         exact ⟨HF.out _ (by cases n <;> rfl), hbd⟩
     · have es : ((s.length : Int) == 0) = false := by
         have : s.length ≠ 0 := fun h => hs0 (List.eq_nil_of_length_eq_zero h)
         simp; omega
       have HF := hide (HTT.out (.returned (.bool false)) (U.told_no (by rintro (h | h | h) <;> first | exact hs0 h.2.2.1 | omega)))
       clear HTT hb1 hs0
       rcases hk8 with rfl | rfl | rfl | rfl | rfl | rfl
       all_goals
         go_wp2
         go_ret
         exact ⟨HF.out, hbd⟩
   · have f3 : (k == 3) = false := by simp; omega
     have f4 : (k == 4) = false := by simp; omega
     have f5 : (k == 5) = false := by simp; omega
     have f6 : (k == 6) = false := by simp; omega
     have f7 : (k == 7) = false := by simp; omega
     have f8 : (k == 8) = false := by simp; omega
     have HF := hide (HTT.out (.returned (.bool false)) (U.told_no (by rintro (h | h | h) <;> omega)))
     clear HTT hb1 k38 k1 k2
     go_wp2
     go_ret
     exact ⟨HF.out, hbd⟩
 · have hne : ((ks.length : Int) != E.kidsOf k) = true := by simp [hk]
   have HF : ∀ e, e = .returned (.bool false) → U.Told (E.NodeOk (.mk k a s n ks)) e := fun e he => he ▸ U.told_no (fun h => hk h.1)
   have HFF := hide HF
   clear HF hk
   generalize E.kidsOf k = kk at *
   have hbox := heap_alloc_new w (.cells #[.int .i64 k, .int .i64 a, .slice sp s.length sc, .string ⟨n.toArray⟩, .slice kp ks.length kc] 26)
   obtain ⟨w1, hw1⟩ : ∃ w1, w.alloc (.cells #[.int .i64 k, .int .i64 a, .slice sp s.length sc, .string ⟨n.toArray⟩, .slice kp ks.length kc] 26) = w1 := ⟨_, rfl⟩
   rw [hw1] at hbox hbx
   have hlt : w.heap.size < w1.heap.size := (Array.getElem?_eq_some_iff.1 hbox).1
   obtain ⟨c0, c1, c2, c3, c4⟩ := cells_five hbox
   have hrd1 := hrd.later hbx
   have ht1 := ht.later hbx
   go_enter Tryz.func77, Tryz.ntmps77
   go_wp2_with fail
   refine Reg.start (B := w1.heap.size) (by kernel_rfl) ?_
   refine Reg.take (fun _ _ _ _ _ h => h) 0 _ 3 (.pointer (some ⟨w.heap.size, 4, none⟩)) rfl (by kernel_rfl) (by kernel_rfl) (by kernel_rfl) rfl (by kernel_rfl) (by kernel_rfl) (fun wx hb => by kernel_rfl) ?_
   refine Reg.take (fun _ _ _ _ _ h => h) 1 _ 4 (.slice kp ks.length kc) rfl (by kernel_rfl) (by kernel_rfl) (by kernel_rfl) rfl (by kernel_rfl) (by kernel_rfl) (fun wx hb => Reg.ld1 rfl (by kernel_rfl) ((hb.cell (p := ⟨w.heap.size, 4, none⟩) hlt).trans c4) (Tryz.isAgg24 _)) ?_
   refine Reg.take (fun _ _ _ _ _ h => h) 2 _ 5 (.int .i64 (ks.length : Int)) rfl (by kernel_rfl) (by kernel_rfl) (by kernel_rfl) rfl (by kernel_rfl) (by kernel_rfl) (fun wx hb => by kernel_rfl) ?_
   refine Reg.take (fun _ _ _ _ _ h => h) 3 _ 6 (.pointer (some ⟨w.heap.size, 0, none⟩)) rfl (by kernel_rfl) (by kernel_rfl) (by kernel_rfl) rfl (by kernel_rfl) (by kernel_rfl) (fun wx hb => by kernel_rfl) ?_
   refine Reg.take (fun _ _ _ _ _ h => h) 4 _ 7 (.int .i64 k) rfl (by kernel_rfl) (by kernel_rfl) (by kernel_rfl) rfl (by kernel_rfl) (by kernel_rfl) (fun wx hb => Reg.ld1 rfl (by kernel_rfl) ((hb.cell (p := ⟨w.heap.size, 0, none⟩) hlt).trans c0) (Tryz.isAgg3 _)) ?_
   refine Reg.call 5 _ 8 111 _ _ #[.int .i64 k] rfl (by kernel_rfl) rfl (by kernel_rfl) (by kernel_rfl) rfl (by kernel_rfl) (by kernel_rfl) (hko w1.drew) ?_
   rintro e w2 ⟨rfl, rfl⟩
   refine ⟨_, w1.heap.size, rfl, Nat.le_refl _, Below.refl _ _, ?_⟩
   refine Reg.only 6 _ 9 rfl (by kernel_rfl) rfl (by kernel_rfl) (by kernel_rfl) ⟨.bool ((ks.length : Int) != kk), w1.drew, w1.heap.size, Reg.neI (k := .i64) rfl (by kernel_rfl) (by kernel_rfl), Nat.le_refl _, Below.refl _ _, ?_⟩
   refine Reg.done (by kernel_rfl) ?_
   simp only [Reg.ov, Act.put, List.setIfInBounds_toArray, List.set_cons_succ, List.set_cons_zero]
   rw [hne]
   have hbd : Below w.heap.size w w1.drew := hbx.drew
   go_wp2
   go_ret
   exact ⟨HFF.out _ rfl, hbd⟩
end Go.Proofs.YtemanednddhfaaaGreatDoor
