/- write and writeKids of regex. -/
import Derived.Test.YteaaijhppmkfeaaGreatDoorRWst
import Derived.Test.YteaaijhppmkfeaaGreatDoorRIsn
namespace Go.Proofs.YteaaijhppmkfeaaGreatDoor
open Go.RowKit
open E (T)
namespace E
mutual
def text : T → List UInt8
 | .mk k _ s n ks => if k = 1 then setT s else if k = 2 then 36 :: n else if k = 3 then [40, 41] else if k = 4 then 40 :: (textK [32] false ks ++ [41]) else if k = 5 then 40 :: (textK [32, 124, 32] false ks ++ [41])
   else if k = 6 then 40 :: (textK [] false ks ++ [41, 42]) else if k = 7 then 40 :: (textK [] false ks ++ [41, 43]) else if k = 8 then 40 :: (textK [] false ks ++ [41, 63]) else []
def textK (sep : List UInt8) : Bool → List T → List UInt8
 | _, [] => []
 | b, t :: ts => (if b = true then sep else []) ++ (text t ++ textK sep true ts)
end
theorem textK_snoc (sep : List UInt8) (b : Bool) : ∀ (ts : List T) (t : T), textK sep b (ts ++ [t]) = textK sep b ts ++ ((if (b || !ts.isEmpty) = true then sep else []) ++ text t)
 | [], t => by simp [textK]
 | x :: ts, t => by
   rw [List.cons_append, textK, textK, textK_snoc sep true ts t]
   simp
theorem textK_le (sep : List UInt8) (ts : List T) (i : Nat) (h : i < ts.length) : (textK sep false (ts.take i)).length + ((if i = 0 then [] else sep).length + (text ts[i]).length) ≤ (textK sep false ts).length := by
 have h1 : textK sep false (ts.take (i + 1)) = textK sep false (ts.take i) ++ ((if (false || !(ts.take i).isEmpty) = true then sep else []) ++ text ts[i]) := by rw [List.take_succ_eq_append_getElem h, textK_snoc]
 have h2 : ∀ (b : Bool) (xs ys : List T), (textK sep b xs).length ≤ (textK sep b (xs ++ ys)).length := by
   intro b xs
   induction xs generalizing b with
   | nil => intro ys; simp [textK]
   | cons x xs ih => intro ys; rw [List.cons_append, textK, textK]; simp only [List.length_append]; have := ih true ys; omega
 have h3 := h2 false (ts.take (i + 1)) (ts.drop (i + 1))
 rw [List.take_append_drop, h1] at h3
 have hne : (ts.take i).isEmpty = decide (i = 0) := by
   cases ts with
   | nil => simp at h
   | cons x s => cases i <;> simp
 rw [hne] at h3
 simp only [List.length_append] at h3
 by_cases hi : i = 0
 · simp [hi] at h3 ⊢; simpa [hi] using h3
 · simp [hi] at h3 ⊢; omega
mutual
def TxtOk : T → Prop
 | .mk k _ s _ ks => (k = 1 → s.length ≤ 1000 ∧ ∀ r ∈ s, 0 ≤ r.1 ∧ r.1 ≤ 1114111 ∧ 0 ≤ r.2 ∧ r.2 ≤ 1114111) ∧ ks.length ≤ 1000000 ∧ TxtOks ks
def TxtOks : List T → Prop
 | [] => True
 | t :: ts => TxtOk t ∧ TxtOks ts
end
end E
theorem KR.get {w : World} {ok : Nat → Prop} {kp : Option Addr} : ∀ (ts : List T) (j : Nat), KR w ok ts kp j → ∀ i (h : i < ts.length), ∃ b off v, kp = some ⟨b, off, none⟩ ∧ TR w ok ts[i] v ∧ Cells5 w b (off + (j + i) * 5) v
 | t :: ts, j, h, 0, _ => by
   rw [KR] at h
   obtain ⟨⟨b, off, v, e, _, h2, h3⟩, _⟩ := h
   exact ⟨b, off, v, e, h2, h3⟩
 | t :: ts, j, h, i + 1, hi => by
   rw [KR] at h
   obtain ⟨b, off, v, e, h2, h3⟩ := KR.get ts (j + 1) h.2 i (by simpa using hi)
   exact ⟨b, off, v, e, h2, by rw [show j + (i + 1) = j + 1 + i by omega]; exact h3⟩
def WOk (t : T) : Prop := ∀ (B b : Nat) (l : List UInt8) (d : ND) (w0 w : World), w0.heap.size = B → Below B w0 w → Deb w0 → TR w0 (fun _ => True) t d.v → Bd B b l w → B ≤ b → l.length + (E.text t).length ≤ 8000000 →
 Calls Tryz.prog 54 #[.pointer (some ⟨b, 0, none⟩), d.v] w fun e w' => (∃ v, e = .returned v) ∧ Bd B b (l ++ E.text t) w' ∧ Below B w0 w' ∧ Kpt b w w'
theorem elemSize24w (w : World) : (sizeOf (Tryz.prog.elem 24)).run Tryz.prog w = .ok 5 w := by kernel_rfl
theorem cells5_atW {w W : World} {b o n : Nat} {d : ND} (h : Cells5 w b o d.v) (hB : Below n w W) (hn : b < n) : W.cell? ⟨b, o, none⟩ = some (.int .i64 d.k) ∧ W.cell? ⟨b, o + 1, none⟩ = some (.int .i64 d.a) ∧ W.cell? ⟨b, o + 2, none⟩ = some (.slice d.sp d.sl d.sc) ∧ W.cell? ⟨b, o + 3, none⟩ = some (.string d.n) ∧ W.cell? ⟨b, o + 4, none⟩ = some (.slice d.kp d.kl d.kc) := by
 obtain ⟨c0, c1, c2, c3, c4, e, h0, h1, h2, h3, h4⟩ := h
 have k : ∀ j, W.cell? ⟨b, j, none⟩ = w.cell? ⟨b, j, none⟩ := fun j => hB.cell (p := ⟨b, j, none⟩) hn
 unfold ND.v at e
 simp only [Value.agg.injEq, Array.mk.injEq, List.cons.injEq, and_true] at e
 obtain ⟨rfl, rfl, rfl, rfl, rfl⟩ := e
 exact ⟨by rw [k]; exact h0, by rw [k]; exact h1, by rw [k]; exact h2, by rw [k]; exact h3, by rw [k]; exact h4⟩
set_option maxRecDepth 100000 in
set_option maxHeartbeats 4000000 in
theorem writeKids_any (ks : List T) (hkl : ks.length ≤ 1000000) (IH : ∀ t ∈ ks, WOk t) (B b : Nat) (l : List UInt8) (kp : Option Addr) (kc : Nat) (sep beh : List UInt8) (hsep : sep.length ≤ 10) (hbeh : beh.length ≤ 10) (hlen : l.length + (40 :: (E.textK sep false ks ++ beh)).length ≤ 8000000) (w0 w : World) (hB0 : w0.heap.size = B) (hb0 : Below B w0 w) (hd : Deb w0) (hkr : KR w0 (fun _ => True) ks kp 0) (hbd : Bd B b l w) (hBb : B ≤ b) :
   Calls Tryz.prog 88 #[.pointer (some ⟨b, 0, none⟩), .slice kp ks.length kc, .string ⟨sep.toArray⟩, .string ⟨beh.toArray⟩] w fun e w' => (∃ v, e = .returned v) ∧ Bd B b (l ++ (40 :: (E.textK sep false ks ++ beh))) w' ∧ Below B w0 w' ∧ Kpt b w w' := by
 subst hB0
 have hbs := hb0.size
 simp only [List.length_cons, List.length_append] at hlen
 have hwb := wbyte_k w0.heap.size b l 40 w hbd (by omega) hbs
 go_enter Tryz.func88, Tryz.ntmps88
 go_wp2_with fail
 refine hwb.mono ?_
 rintro e w1 ⟨rfl, hbd1, hb1, hk1⟩
 have hB1 := hb0.trans hb1
 clear hbd hb1 hwb
 have HLN := hide hlen
 clear hlen
 go_wp2
 go_loopw [14] (fun u wr => ∃ i : Nat, u = .int .i64 (i : Int) ∧ i ≤ ks.length ∧ Bd w0.heap.size b (l ++ [40] ++ E.textK sep false (ks.take i)) wr ∧ Below w0.heap.size w0 wr ∧ Kpt b w wr) (fun u _ => ks.length - (intOf u).toNat)
 case atStart => exact ⟨0, rfl, Nat.zero_le _, by simpa [E.textK] using hbd1, hB1, hk1⟩
 case round =>
   obtain ⟨i, rfl, hi, hbd, hB, hk⟩ := hrel
   by_cases hlt : i < ks.length
   · obtain ⟨bb, off, v, rfl, htr, hc5⟩ := hkr.get ks 0 i hlt
     obtain ⟨d, rfl, hdk, hda⟩ := htr.nd
     clear hdk hda
     have hbl := cells5_lt hc5
     rw [Nat.zero_add] at hc5
     obtain ⟨c0, c1, c2, c3, c4⟩ := cells5_atW hc5 hB hbl
     have hih := IH _ (List.getElem_mem hlt)
     have HTL := hide (E.textK_le sep ks i hlt)
     have HTK : Hid (ks.take (i + 1) = ks.take i ++ [ks[i]]) := hide (List.take_succ_eq_append_getElem hlt)
     have hne : (ks.take i).isEmpty = decide (i = 0) := by
       cases ks with
       | nil => simp at hlt
       | cons x s => cases i <;> simp
     have HSN := hide (E.textK_snoc sep false (ks.take i) ks[i])
     rw [hne] at HSN
     generalize ks[i] = t at *
     have HO : Hid (l ++ [40] ++ E.textK sep false (ks.take (i + 1)) = (l ++ [40] ++ E.textK sep false (ks.take i)) ++ ((if (false || !decide (i = 0)) = true then sep else []) ++ E.text t)) := hide (by
       rw [HTK.out, HSN.out]
       simp only [List.append_assoc])
     have HL : Hid ((l ++ [40] ++ E.textK sep false (ks.take i)).length + ((if i = 0 then [] else sep).length + (E.text t).length) ≤ 8000000) := hide (by
       have := HTL.out; have := HLN.out
       simp only [List.length_append, List.length_cons, List.length_nil]
       omega)
     generalize l ++ [40] ++ E.textK sep false (ks.take i) = o at *
     have hal := al1 wr (.cells #[.int .i64 d.k, .int .i64 d.a, .slice d.sp d.sl d.sc, .string d.n, .slice d.kp d.kl d.kc] 26)
     have hx5 := heap_alloc_new wr (.cells #[.int .i64 d.k, .int .i64 d.a, .slice d.sp d.sl d.sc, .string d.n, .slice d.kp d.kl d.kc] 26)
     have hix := elemSize24w
     have hbw : b < wr.heap.size := hbd.lt
     have hbd := hbd.later hal
     have hB := hB.trans (hal.mono (by have := hB.size; omega))
     have hk := hk.later hal
     obtain ⟨q0, q1, q2, q3, q4⟩ := cells_five hx5
     clear HTK HSN hne HTL hc5
     by_cases h0 : i = 0
     · subst h0
       simp only [Nat.zero_mul, Nat.add_zero] at c0 c1 c2 c3 c4
       simp only [decide_true, Bool.not_true, Bool.or_self, Bool.false_eq_true, if_false, List.nil_append] at HO
       have hcall := hih w0.heap.size b o d w0 _ rfl hB hd htr hbd hBb (by have := HL.out; simp at this; omega)
       unfold ND.v at hcall
       go_wp2_with fail
       refine hcall.mono ?_
       rintro e x1 ⟨⟨v, rfl⟩, hbd2, hB2, hk2⟩
       go_wp2
       go_roundw
       case rel => exact ⟨0 + 1, by go_num, by omega, by rw [HO.out]; exact hbd2, hB2, hk.trans hk2⟩
       case measure => simp [intOf]; omega
     · have ei : decide ((0 : Int) < (i : Int)) = true := by simp; omega
       have ei2 : decide (0 < i) = true := by simp; omega
       simp only [decide_eq_false h0, Bool.not_false, Bool.or_true, if_true] at HO
       rw [if_neg h0] at HL
       have hwc := wstr_k w0.heap.size b o ⟨sep.toArray⟩ _ hbd (by have := HL.out; omega) (by show sep.toArray.size ≤ _; simp; omega) hB.size
       clear h0
       go_wp2_with fail
       refine hwc.mono ?_
       rintro e x1 ⟨rfl, hbd2, hbN, hkN⟩
       have hx5 := hkN _ _ _ _ hx5 (by decide) (by omega)
       have hB := hB.trans hbN
       have hk := hk.trans hkN
       obtain ⟨q0, q1, q2, q3, q4⟩ := cells_five hx5
       have hcall := hih w0.heap.size b (o ++ sep) d w0 _ rfl hB hd htr hbd2 hBb (by have := HL.out; simp; omega)
       unfold ND.v at hcall
       clear hbN hkN hwc hbd
       go_wp2_with fail
       refine hcall.mono ?_
       rintro e x2 ⟨⟨v, rfl⟩, hbd3, hB2, hk2⟩
       go_wp2
       go_roundw
       case rel => exact ⟨i + 1, by go_num, by omega, by rw [HO.out]; simpa using hbd3, hB2, hk.trans hk2⟩
       case measure => simp [intOf]; omega
   · obtain rfl : i = ks.length := by omega
     rw [List.take_length] at hbd
     have HO : Hid (l ++ (40 :: (E.textK sep false ks ++ beh)) = (l ++ [40] ++ E.textK sep false ks) ++ beh) := hide (by simp)
     have HL : Hid ((l ++ [40] ++ E.textK sep false ks).length ≤ 8000000) := hide (by
       have := HLN.out
       simp only [List.length_append, List.length_cons, List.length_nil]
       omega)
     generalize l ++ [40] ++ E.textK sep false ks = o at *
     have hwc := wstr_k w0.heap.size b o ⟨beh.toArray⟩ wr hbd (by have := HL.out; omega) (by show beh.toArray.size ≤ _; simp; omega) hB.size
     go_wp2_with fail
     refine hwc.mono ?_
     rintro e x1 ⟨rfl, hbd2, hbN, hkN⟩
     go_wp2
     go_end0
     exact ⟨⟨_, rfl⟩, by rw [HO.out]; exact hbd2, hB.trans hbN, hk.trans hkN⟩
set_option maxRecDepth 100000 in
set_option maxHeartbeats 8000000 in
theorem write_one (k a : Int) (s : E.Rs) (n : List UInt8) (ks : List T) (hok : k = 1 → s.length ≤ 1000 ∧ ∀ r ∈ s, 0 ≤ r.1 ∧ r.1 ≤ 1114111 ∧ 0 ≤ r.2 ∧ r.2 ≤ 1114111) (hkl : ks.length ≤ 1000000) (IH : ∀ t ∈ ks, WOk t) : WOk (.mk k a s n ks) := by
 intro B b l d w0 w hB0 hb0 hd hT hbd hBb hlen
 subst hB0
 rw [TR] at hT
 obtain ⟨sp, sc, kp, kc, hv, hrd, hkc, hkr⟩ := hT
 rw [hv]
 clear hv hkc
 have hbw := hbd.lt
 by_cases k1 : k = 1
 · subst k1
   have HO : Hid (E.text (.mk 1 a s n ks) = E.setT s) := hide (by rw [E.text]; simp)
   rw [HO.out] at hlen
   have hws := fun W hb0 hbd => writeSet_any w0.heap.size b l sp sc s (hok rfl).2 (hok rfl).1 (by omega) w0 W rfl hb0 hd hrd hbd hBb
   clear hlen hok
   go_enter Tryz.func54, Tryz.ntmps54
   go_wp2_with fail
   refine (hws _ (hb0.alloc hb0.size _) (hbd.later (al1 w _))).mono ?_
   rintro e w1 ⟨⟨v, rfl⟩, h1, h2, h3⟩
   go_wp2
   go_end0
   exact ⟨⟨_, rfl⟩, by rw [HO.out]; exact h1, h2, (kpt_refl b w).alloc _ |>.trans h3⟩
 have e1 : (k == 1) = false := by simp [k1]
 clear hok
 by_cases k2 : k = 2
 · subst k2
   have HO : Hid (E.text (.mk 2 a s n ks) = 36 :: n) := hide (by rw [E.text]; simp)
   rw [HO.out] at hlen
   simp only [List.length_cons] at hlen
   have hcat : (⟨#[36]⟩ : ByteArray) ++ ⟨n.toArray⟩ = ⟨(36 :: n).toArray⟩ := by apply ByteArray.ext; simp
   have hws := fun W hbd hs => wstr_k w0.heap.size b l ⟨(36 :: n).toArray⟩ W hbd (by omega) (by show (36 :: n).toArray.size ≤ _; simp; omega) hs
   have hnl : n.length ≤ 8000000 := by omega
   clear hlen
   go_enter Tryz.func54, Tryz.ntmps54
   go_wp2_with fail
   refine (hws _ (hbd.later (al1 w _)) (by have := hb0.size; simp; omega)).mono ?_
   rintro e w1 ⟨rfl, h1, h2, h3⟩
   go_wp2
   go_end0
   exact ⟨⟨_, rfl⟩, by rw [HO.out]; exact h1, (hb0.alloc (by have := hb0.size; omega) _).trans h2, (kpt_refl b w).alloc _ |>.trans h3⟩
 have e2 : (k == 2) = false := by simp [k2]
 by_cases k3 : k = 3
 · subst k3
   have HO : Hid (E.text (.mk 3 a s n ks) = [40, 41]) := hide (by rw [E.text]; simp)
   rw [HO.out] at hlen
   simp only [List.length_cons, List.length_nil] at hlen
   have hws := fun W hbd hs => wstr_k w0.heap.size b l ⟨#[40, 41]⟩ W hbd (by omega) (by decide) hs
   clear hlen
   go_enter Tryz.func54, Tryz.ntmps54
   go_wp2_with fail
   refine (hws _ (hbd.later (al1 w _)) (by have := hb0.size; simp; omega)).mono ?_
   rintro e w1 ⟨rfl, h1, h2, h3⟩
   go_wp2
   go_end0
   exact ⟨⟨_, rfl⟩, by rw [HO.out]; exact h1, (hb0.alloc (by have := hb0.size; omega) _).trans h2, (kpt_refl b w).alloc _ |>.trans h3⟩
 have e3 : (k == 3) = false := by simp [k3]
 by_cases k4 : k = 4
 · subst k4
   have HO : Hid (E.text (.mk 4 a s n ks) = 40 :: (E.textK [32] false ks ++ [41])) := hide (by rw [E.text]; simp)
   rw [HO.out] at hlen
   have hwk := fun W hb0 hbd => writeKids_any ks hkl IH w0.heap.size b l kp kc [32] [41] (by simp) (by simp) (by simpa using hlen) w0 W rfl hb0 hd hkr hbd hBb
   clear hlen
   go_enter Tryz.func54, Tryz.ntmps54
   go_wp2_with fail
   refine (hwk _ (hb0.alloc hb0.size _) (hbd.later (al1 w _))).mono ?_
   rintro e w1 ⟨⟨v, rfl⟩, h1, h2, h3⟩
   go_wp2
   go_end0
   exact ⟨⟨_, rfl⟩, by rw [HO.out]; exact h1, h2, (kpt_refl b w).alloc _ |>.trans h3⟩
 have e4 : (k == 4) = false := by simp [k4]
 by_cases k5 : k = 5
 · subst k5
   have HO : Hid (E.text (.mk 5 a s n ks) = 40 :: (E.textK [32, 124, 32] false ks ++ [41])) := hide (by rw [E.text]; simp)
   rw [HO.out] at hlen
   have hwk := fun W hb0 hbd => writeKids_any ks hkl IH w0.heap.size b l kp kc [32, 124, 32] [41] (by simp) (by simp) (by simpa using hlen) w0 W rfl hb0 hd hkr hbd hBb
   clear hlen
   go_enter Tryz.func54, Tryz.ntmps54
   go_wp2_with fail
   refine (hwk _ (hb0.alloc hb0.size _) (hbd.later (al1 w _))).mono ?_
   rintro e w1 ⟨⟨v, rfl⟩, h1, h2, h3⟩
   go_wp2
   go_end0
   exact ⟨⟨_, rfl⟩, by rw [HO.out]; exact h1, h2, (kpt_refl b w).alloc _ |>.trans h3⟩
 have e5 : (k == 5) = false := by simp [k5]
 by_cases k6 : k = 6
 · subst k6
   have HO : Hid (E.text (.mk 6 a s n ks) = 40 :: (E.textK [] false ks ++ [41, 42])) := hide (by rw [E.text]; simp)
   rw [HO.out] at hlen
   have hwk := fun W hb0 hbd => writeKids_any ks hkl IH w0.heap.size b l kp kc [] [41, 42] (by simp) (by simp) (by simpa using hlen) w0 W rfl hb0 hd hkr hbd hBb
   clear hlen
   go_enter Tryz.func54, Tryz.ntmps54
   go_wp2_with fail
   refine (hwk _ (hb0.alloc hb0.size _) (hbd.later (al1 w _))).mono ?_
   rintro e w1 ⟨⟨v, rfl⟩, h1, h2, h3⟩
   go_wp2
   go_end0
   exact ⟨⟨_, rfl⟩, by rw [HO.out]; exact h1, h2, (kpt_refl b w).alloc _ |>.trans h3⟩
 have e6 : (k == 6) = false := by simp [k6]
 by_cases k7 : k = 7
 · subst k7
   have HO : Hid (E.text (.mk 7 a s n ks) = 40 :: (E.textK [] false ks ++ [41, 43])) := hide (by rw [E.text]; simp)
   rw [HO.out] at hlen
   have hwk := fun W hb0 hbd => writeKids_any ks hkl IH w0.heap.size b l kp kc [] [41, 43] (by simp) (by simp) (by simpa using hlen) w0 W rfl hb0 hd hkr hbd hBb
   clear hlen
   go_enter Tryz.func54, Tryz.ntmps54
   go_wp2_with fail
   refine (hwk _ (hb0.alloc hb0.size _) (hbd.later (al1 w _))).mono ?_
   rintro e w1 ⟨⟨v, rfl⟩, h1, h2, h3⟩
   go_wp2
   go_end0
   exact ⟨⟨_, rfl⟩, by rw [HO.out]; exact h1, h2, (kpt_refl b w).alloc _ |>.trans h3⟩
 have e7 : (k == 7) = false := by simp [k7]
 by_cases k8 : k = 8
 · subst k8
   have HO : Hid (E.text (.mk 8 a s n ks) = 40 :: (E.textK [] false ks ++ [41, 63])) := hide (by rw [E.text]; simp)
   rw [HO.out] at hlen
   have hwk := fun W hb0 hbd => writeKids_any ks hkl IH w0.heap.size b l kp kc [] [41, 63] (by simp) (by simp) (by simpa using hlen) w0 W rfl hb0 hd hkr hbd hBb
   clear hlen
   go_enter Tryz.func54, Tryz.ntmps54
   go_wp2_with fail
   refine (hwk _ (hb0.alloc hb0.size _) (hbd.later (al1 w _))).mono ?_
   rintro e w1 ⟨⟨v, rfl⟩, h1, h2, h3⟩
   go_wp2
   go_end0
   exact ⟨⟨_, rfl⟩, by rw [HO.out]; exact h1, h2, (kpt_refl b w).alloc _ |>.trans h3⟩
 have e8 : (k == 8) = false := by simp [k8]
 have HO : Hid (E.text (.mk k a s n ks) = []) := hide (by rw [E.text]; simp [k1, k2, k3, k4, k5, k6, k7, k8])
 clear k1 k2 k3 k4 k5 k6 k7 k8 hlen
 go_enter Tryz.func54, Tryz.ntmps54
 go_wp2
 go_end0
 exact ⟨⟨_, rfl⟩, by rw [HO.out, List.append_nil]; exact hbd.later (al1 w _), hb0.alloc (by have := hb0.size; omega) _, (kpt_refl b w).alloc _⟩
mutual
theorem write_any : ∀ (t : T), E.TxtOk t → WOk t
 | .mk k a s n ks, h => by
   rw [E.TxtOk] at h
   exact write_one k a s n ks h.1 h.2.1 (write_all ks h.2.2)
theorem write_all : ∀ (ts : List T), E.TxtOks ts → ∀ t ∈ ts, WOk t
 | [], _, t, h => by cases h
 | x :: ts, hx, t, h => by
   rw [E.TxtOks] at hx
   rcases List.mem_cons.1 h with e | h
   · rw [e]; exact write_any x hx.1
   · exact write_all ts hx.2 t h
end
end Go.Proofs.YteaaijhppmkfeaaGreatDoor
