/- Joined: RFo7 RFp7 RSm7 RTx7. -/
import Derived.Test.YteaaijhppmkfeaaGreatDoorRNd7
import Derived.Test.YteaaijhppmkfeaaGreatDoorRRa
import Derived.Test.YteaaijhppmkfeaaGreatDoorRURefis
import Derived.BigQuiet
import Derived.Test.YteaaijhppmkfeaaGreatDoorRURefa
namespace Go.Proofs.YteaaijhppmkfeaaGreatDoor
open Go.RowKit Go.Shelf
open E (T)
attribute [local go_sem] Oper.semAt_some
namespace E
def nameR (l : List UInt8) : Bool := decide (l.head?.map X.isL = some true) && (decide (l.length ≤ 20) && l.all X.isLD)
theorem nameR_eq (n : List UInt8) : nameR n = nameP n := by
 rw [Bool.eq_iff_iff]
 constructor
 · intro h
   unfold nameR at h
   simp only [Bool.and_eq_true, decide_eq_true_eq, List.all_eq_true] at h
   obtain ⟨h1, h2, h3⟩ := h
   have htw : n.takeWhile X.isLD = n := by have := X.tw_id (p := X.isLD) (d := n) h3 [] (.inl rfl); simpa using this
   have hn : X.nextL (36 :: n) = some (⟨1, n, 0⟩, 1 + n.length) := by
     unfold X.nextL
     simp only
     rw [if_neg (by decide), if_pos trivial, if_pos ⟨h1, by rw [htw]; exact h2⟩, htw]
   unfold nameP
   rw [X.scan_some 0 n (by decide) (by decide) hn]
   have hd : (36 :: n).drop (1 + n.length) = [] := by rw [List.drop_eq_nil_iff]; simp; omega
   rw [hd, X.scan_nil]
   simp [Except.map, h2]
 · intro h
   obtain ⟨h1, h2, h3⟩ := nameP_all h
   unfold nameR
   simp only [Bool.and_eq_true, decide_eq_true_eq, List.all_eq_true]
   refine ⟨h1, h3, fun c hc => ?_⟩
   rw [← h2] at hc
   exact List.all_eq_true.1 (List.all_takeWhile (p := X.isLD) (l := n)) c hc
def Okk (t : T) : Prop := ∀ p ∈ pre t t, NodeOk p.1
theorem okk_eq (t : T) : Okk t ↔ NodeOk t ∧ ∀ x ∈ t.kids, Okk x := by
 unfold Okk
 rw [pre_self]
 constructor
 · intro h
   exact ⟨h _ List.mem_cons_self, fun x hx p hp => h p (List.mem_cons_of_mem _ (List.mem_flatMap.2 ⟨x, hx, hp⟩))⟩
 · rintro ⟨h1, h2⟩ p hp
   rw [List.mem_cons] at hp
   rcases hp with rfl | hp
   · exact h1
   · obtain ⟨x, hx, hp⟩ := List.mem_flatMap.1 hp
     exact h2 x hx p hp
end E
set_option maxRecDepth 100000 in
set_option maxHeartbeats 1000000 in
theorem nameR_any (s : ByteArray) (hs : s.size ≤ 9223372036854775807) (w : World) : Calls Tryz.prog 85 #[.string s] w fun e w' => e = .returned (.bool (E.nameR (bts s))) ∧ w' = w := by
 by_cases h0 : s.size = 0
 · have HE : Hid (E.nameR (bts s) = false) := hide (by
     have : bts s = [] := List.eq_nil_of_length_eq_zero h0
     rw [this]; rfl)
   have e1 : decide ((s.size : Int) < 1) = true := decide_eq_true (by omega)
   have e0 : decide (s.size = 0) = true := decide_eq_true h0
   have e2 : decide (s.size < 1) = true := decide_eq_true (by omega)
   clear h0
   go_enter Tryz.func85, Tryz.ntmps85
   go_wp2
   go_ret
   exact ⟨by rw [HE.out]; rfl, rfl⟩
 · have e1 : decide ((s.size : Int) < 1) = false := decide_eq_false (by omega)
   have e0 : decide (s.size = 0) = false := decide_eq_false h0
   have e2 : decide (s.size < 1) = false := decide_eq_false (by omega)
   by_cases h20 : s.size ≤ 20
   · have e3 : decide ((20 : Int) < (s.size : Int)) = false := decide_eq_false (by omega)
     have e4 : decide (20 < s.size) = false := decide_eq_false (by omega)
     have hl0 : 0 < (bts s).length := by rw [bts_len]; omega
     have hx0 : ∀ h, s[0]'h = (bts s)[0]'hl0 := fun h => idx_at (s := s) hl0 0 rfl h
     have HH : Hid ((bts s).head?.map X.isL = some (X.isL (bts s)[0])) := hide (by rw [List.head?_eq_getElem?, List.getElem?_eq_getElem hl0]; rfl)
     have H20 : Hid ((bts s).length ≤ 20) := hide h20
     have hs2 : s.size ≤ 20 := h20
     clear h20
     generalize (bts s)[0] = c0 at *
     have hL0 := letterR_any c0 w
     cases hd0 : X.isL c0 with
     | false =>
       rw [hd0] at hL0
       have HE : Hid (E.nameR (bts s) = false) := hide (by unfold E.nameR; rw [HH.out, hd0]; rfl)
       clear HH h0
       go_enter Tryz.func85, Tryz.ntmps85
       go_wp2_with fail
       with_reducible refine hL0.mono ?_
       rintro e w1 ⟨rfl, rfl⟩
       go_wp2
       go_ret
       exact ⟨by rw [HE.out]; rfl, rfl⟩
     | true =>
       rw [hd0] at hL0
       have HE : Hid (E.nameR (bts s) = (bts s).all X.isLD) := hide (by unfold E.nameR; rw [HH.out, hd0, decide_eq_true H20.out]; rfl)
       clear HH h0
       go_enter Tryz.func85, Tryz.ntmps85
       go_wp2_with fail
       with_reducible refine hL0.mono ?_
       rintro e w1 ⟨rfl, rfl⟩
       clear hL0 hx0 hd0 e1 e2 e3 e4
       go_wp2
       go_loopw [3] (fun u wr => ∃ n : Nat, u = .int .i64 (n : Int) ∧ n ≤ s.size ∧ Hid (∀ c ∈ (bts s).take n, X.isLD c = true) ∧ wr = w1) (fun u _ => s.size - (intOf u).toNat)
       case atStart => exact ⟨0, rfl, by omega, hide (fun c hc => by simp at hc), by first | rfl | trivial⟩
       case round =>
         obtain ⟨n, rfl, hn, HA, rfl⟩ := hrel
         by_cases hlt : n < s.size
         · have hl : n < (bts s).length := hlt
           have hx : ∀ h, s[n]'h = (bts s)[n]'hl := fun h => idx_at (s := s) hl (n : Int) rfl h
           have HT := hide (take_snoc0 hl)
           have HN : Hid (X.isLD (bts s)[n] = false → (bts s).all X.isLD = false) := hide (fun h => by
             rw [List.all_eq_false]
             exact ⟨_, List.getElem_mem hl, by simp [h]⟩)
           generalize (bts s)[n] = c at *
           have hL := letterR_any c wr
           have hD := digitR_any c wr
           cases hd : X.isL c with
           | true =>
             rw [hd] at hL
             have HR : Hid (X.isLD c = true) := hide (by unfold X.isLD; rw [hd]; rfl)
             clear hd HN hD
             go_wp2_with fail
             with_reducible refine hL.mono ?_
             rintro e w1 ⟨rfl, rfl⟩
             go_wp2
             go_roundw
             case rel => exact ⟨n + 1, by go_num, by omega, hide (fun x hx => by rw [HT.out] at hx; exact (List.mem_append.1 hx).elim (HA.out x) (fun h => by simp at h; rw [h]; exact HR.out)), by first | rfl | trivial⟩
             case measure => simp [intOf]; omega
           | false =>
             rw [hd] at hL
             cases hdd : X.isD c with
             | true =>
               rw [hdd] at hD
               have HR : Hid (X.isLD c = true) := hide (by unfold X.isLD; rw [hdd]; simp)
               clear hd hdd HN
               go_wp2_with fail
               with_reducible refine hL.mono ?_
               rintro e w1 ⟨rfl, rfl⟩
               go_wp2_with fail
               with_reducible refine hD.mono ?_
               rintro e w2 ⟨rfl, rfl⟩
               go_wp2
               go_roundw
               case rel => exact ⟨n + 1, by go_num, by omega, hide (fun x hx => by rw [HT.out] at hx; exact (List.mem_append.1 hx).elim (HA.out x) (fun h => by simp at h; rw [h]; exact HR.out)), by first | rfl | trivial⟩
               case measure => simp [intOf]; omega
             | false =>
               rw [hdd] at hD
               have HR : Hid (E.nameR (bts s) = false) := hide (by rw [HE.out]; exact HN.out (by unfold X.isLD; rw [hd, hdd]; rfl))
               clear hd hdd HN HE HA HT
               go_wp2_with fail
               with_reducible refine hL.mono ?_
               rintro e w1 ⟨rfl, rfl⟩
               go_wp2_with fail
               with_reducible refine hD.mono ?_
               rintro e w2 ⟨rfl, rfl⟩
               go_wp2
               go_ret
               exact ⟨by rw [HR.out]; rfl, rfl⟩
         · have HR : Hid (E.nameR (bts s) = true) := hide (by
             rw [HE.out, List.all_eq_true]
             intro c hc
             refine HA.out c ?_
             rw [List.take_of_length_le (by rw [bts_len]; omega)]
             exact hc)
           clear HE HA
           go_wp2
           go_ret
           exact ⟨by rw [HR.out]; rfl, rfl⟩
   · have e3 : decide ((20 : Int) < (s.size : Int)) = true := decide_eq_true (by omega)
     have e4 : decide (20 < s.size) = true := decide_eq_true (by omega)
     have HE : Hid (E.nameR (bts s) = false) := hide (by
       unfold E.nameR
       rw [decide_eq_false (show ¬ (bts s).length ≤ 20 by rw [bts_len]; exact h20)]
       simp)
     clear h20 h0
     go_enter Tryz.func85, Tryz.ntmps85
     go_wp2
     go_ret
     exact ⟨by rw [HE.out]; rfl, rfl⟩
end Go.Proofs.YteaaijhppmkfeaaGreatDoor
namespace Go.Proofs.YteaaijhppmkfeaaGreatDoor
open Go.RowKit Go.Shelf
open E (T)
attribute [local go_sem] Oper.semAt_some
theorem okk_no {t : T} (h : ¬ E.NodeOk t) : ¬ E.Okk t := fun h' => h ((E.okk_eq t).1 h').1
theorem ok1 {a : Int} {s : E.Rs} {nm : List UInt8} {ks : List T} : E.NodeOk (.mk 1 a s nm ks) ↔ ks.length = 0 ∧ (s.length ≤ 200 ∧ U.S.Canon s) ∧ nm = [] := by
 unfold E.NodeOk
 simp only [E.T.kids, E.T.kind, E.T.name, E.T.set]
 rw [show E.kidsOf 1 = 0 from rfl]
 constructor
 · rintro ⟨h1, ⟨_, h2, h3, h4⟩ | ⟨h, _⟩ | ⟨h, _⟩⟩
   · exact ⟨by omega, ⟨h3, h4⟩, h2⟩
   · omega
   · omega
 · rintro ⟨h1, ⟨h3, h4⟩, h2⟩
   exact ⟨by omega, .inl ⟨trivial, h2, h3, h4⟩⟩
theorem ok2 {a : Int} {s : E.Rs} {nm : List UInt8} {ks : List T} : E.NodeOk (.mk 2 a s nm ks) ↔ ks.length = 0 ∧ s = [] ∧ E.nameP nm = true := by
 unfold E.NodeOk
 simp only [E.T.kids, E.T.kind, E.T.name, E.T.set]
 rw [show E.kidsOf 2 = 0 from rfl]
 constructor
 · rintro ⟨h1, ⟨h, _⟩ | ⟨_, h2, h3⟩ | ⟨h, _⟩⟩
   · omega
   · exact ⟨by omega, h2, h3⟩
   · omega
 · rintro ⟨h1, h2, h3⟩
   exact ⟨by omega, .inr (.inl ⟨trivial, h2, h3⟩)⟩
theorem okK {k a : Int} {s : E.Rs} {nm : List UInt8} {ks : List T} (K : Nat) (hk : E.kidsOf k = (K : Int)) (h3 : 3 ≤ k) (h8 : k ≤ 8) : E.NodeOk (.mk k a s nm ks) ↔ ks.length = K ∧ s = [] ∧ nm = [] := by
 unfold E.NodeOk
 simp only [E.T.kids, E.T.kind, E.T.name, E.T.set]
 rw [hk]
 constructor
 · rintro ⟨h1, ⟨h, _⟩ | ⟨h, _⟩ | ⟨_, _, h4, h5⟩⟩
   · omega
   · omega
   · exact ⟨by omega, h4, h5⟩
 · rintro ⟨h1, h2, h4⟩
   exact ⟨by omega, .inr (.inr ⟨h3, h8, h2, h4⟩)⟩
theorem okN {k a : Int} {s : E.Rs} {nm : List UInt8} {ks : List T} (h : ¬ (1 ≤ k ∧ k ≤ 8)) : ¬ E.NodeOk (.mk k a s nm ks) := by
 unfold E.NodeOk
 simp only [E.T.kids, E.T.kind, E.T.name, E.T.set]
 rintro ⟨_, ⟨h, _⟩ | ⟨h, _⟩ | ⟨_, _, _⟩⟩ <;> omega
set_option maxRecDepth 100000 in
set_option maxHeartbeats 4000000 in
theorem form_step (k a : Int) (s : List U.S.R) (nm : List UInt8) (ks : List T) (hNB : E.NodeB (.mk k a s nm ks))
   (ih : ∀ t ∈ ks, ∀ (d : ND) (w : World), TR w (fun _ => True) t d.v → Calls Tryz.prog 53 #[d.v] w fun e w' => U.Told (E.Okk t) e ∧ Below w.heap.size w w')
   (d : ND) (w : World) (hd : TR w (fun _ => True) (.mk k a s nm ks) d.v) : Calls Tryz.prog 53 #[d.v] w fun e w' => U.Told (E.Okk (.mk k a s nm ks)) e ∧ Below w.heap.size w w' := by
 obtain ⟨hb1, hb2, hb3, hb4⟩ := hNB
 simp only [E.T.set, E.T.name, E.T.kids] at hb1 hb2 hb3 hb4
 rw [TR] at hd
 obtain ⟨sp, sc, kp, kc, e1, hrd, hk1, hkr1⟩ := hd
 rw [e1]
 clear e1
 have a1 := al1 w (.cells #[.int .i64 k, .int .i64 a, .slice sp s.length sc, .string ⟨nm.toArray⟩, .slice kp ks.length kc] 26)
 have n1 := heap_alloc_new w (.cells #[.int .i64 k, .int .i64 a, .slice sp s.length sc, .string ⟨nm.toArray⟩, .slice kp ks.length kc] 26)
 obtain ⟨X1, hX1⟩ : ∃ X1, w.alloc (.cells #[.int .i64 k, .int .i64 a, .slice sp s.length sc, .string ⟨nm.toArray⟩, .slice kp ks.length kc] 26) = X1 := ⟨_, rfl⟩
 rw [hX1] at a1 n1
 have hrd1 := hrd.later a1
 have hnz : (⟨nm.toArray⟩ : ByteArray).size = nm.length := by show nm.toArray.size = _; simp
 have hnmR : ∀ W, Calls Tryz.prog 85 #[.string ⟨nm.toArray⟩] W fun e w' => e = .returned (.bool (E.nameP nm)) ∧ w' = W := fun W => by
   have := nameR_any ⟨nm.toArray⟩ (by rw [hnz]; exact hb2) W
   rw [E.nameR_eq, show bts (⟨nm.toArray⟩ : ByteArray) = nm from rfl] at this
   exact this
 obtain ⟨c0, c1, c2, c3, c4⟩ := cells_five n1
 obtain ⟨sb, hsb⟩ : ∃ sb : Bool, (s.length == 0) = sb := ⟨_, rfl⟩
 obtain ⟨nb, hnb⟩ : ∃ nb : Bool, (nm == []) = nb := ⟨_, rfl⟩
 have es : ((s.length : Int) == 0) = sb := by rw [← hsb, Bool.eq_iff_iff]; simp
 have es2 : decide (s.length = 0) = sb := by rw [← hsb, Bool.eq_iff_iff]; simp
 have HS : Hid (sb = true ↔ s = []) := hide (by rw [← hsb]; simp)
 have HN : Hid (nb = true ↔ nm = []) := hide (by rw [← hnb]; simp)
 clear hnz
 go_enter Tryz.func53, Tryz.ntmps53
 go_wp2_with fail
 go_quiet (fail)
 obtain ⟨W2, hW2⟩ : ∃ W2, X1.drewN nq = W2 := ⟨_, rfl⟩
 have bq : Below X1.heap.size X1 W2 := by rw [← hW2]; exact _root_.Go.below_drewN (Below.refl _ _) nq
 rw [hW2]
 have n2 := (bq.block w.heap.size (Array.getElem?_eq_some_iff.1 n1).1).trans n1
 have BW := nx a1 bq
 have hrd2 := hrd1.later bq
 clear c0 c1 c2 c3 c4 n1 hX1 hW2 hrd1 bq a1 hrd hsb hnb
 obtain ⟨c0, c1, c2, c3, c4⟩ := cells_five n2
 by_cases k1 : k = 1
 · subst k1
   have HOK := hide (ok1 (a := a) (s := s) (nm := nm) (ks := ks))
   clear HS es es2
   by_cases h200 : s.length ≤ 200
   · have e200 : decide ((s.length : Int) ≤ 200) = true := decide_eq_true (by omega)
     have e200b : decide (s.length ≤ 200) = true := decide_eq_true h200
     have his := U.refIs_any sp sc s (by omega) W2 hrd2
     go_wp2_with fail
     with_reducible refine his.mono ?_
     rintro e W3 ⟨⟨b, rfl, hbb⟩, hb3⟩
     have HS : Hid (b = true ↔ (s.length ≤ 200 ∧ U.S.Canon s)) := hide (hbb.trans ⟨fun h => ⟨h200, h⟩, fun h => h.2⟩)
     have N1 := hide ((hb3.block w.heap.size (Array.getElem?_eq_some_iff.1 n2).1).trans n2)
     have BW := nx BW hb3
     clear his hbb hb3 c0 c1 c2 c3 c4 n2 hnmR e200 e200b h200
     obtain ⟨c0, c1, c2, c3, c4⟩ := cells_five N1.out
     by_cases hkl : ks.length = 0
     · have e9 : ((ks.length : Int) != 0) = false := by rw [hkl]; rfl
       have e9b : (ks.length != 0) = false := by rw [hkl]; rfl
       cases b with
       | false =>
         have HF : Hid (¬ E.Okk (.mk 1 a s nm ks)) := hide (okk_no (fun h => by
           have h1 := HOK.out.1 h
           have := HS.out.2 h1.2.1; cases this))
         go_wp2
         go_ret
         exact ⟨U.told_no HF.out, BW⟩
       | true =>
         cases nb with
         | false =>
           have HF : Hid (¬ E.Okk (.mk 1 a s nm ks)) := hide (okk_no (fun h => by
             have h1 := HOK.out.1 h
             have := HN.out.2 h1.2.2; cases this))
           go_wp2
           go_ret
           exact ⟨U.told_no HF.out, BW⟩
         | true =>
           have HF : Hid (E.Okk (.mk 1 a s nm ks)) := hide ((E.okk_eq _).2 ⟨HOK.out.2 ⟨hkl, HS.out.1 (by first | rfl | trivial), HN.out.1 (by first | rfl | trivial)⟩, fun x hx => by
             obtain rfl : ks = [] := List.eq_nil_of_length_eq_zero hkl
             cases hx⟩)
           go_wp2
           go_loopw [6] (fun u wr => u = .int .i64 0 ∧ Below w.heap.size w wr) (fun _ _ => 0)
           case atStart => exact ⟨rfl, BW⟩
           case round =>
             obtain ⟨rfl, hB⟩ := hrel
             go_wp2
             go_ret
             exact ⟨U.told_yes HF.out, hB⟩
     · have e9 : ((ks.length : Int) != 0) = true := bne_iff_ne.2 (fun h => hkl (by omega))
       have e9b : (ks.length != 0) = true := bne_iff_ne.2 hkl
       have HF : Hid (¬ E.Okk (.mk 1 a s nm ks)) := hide (okk_no (fun h => by
         have h1 := HOK.out.1 h
         exact hkl h1.1))
       go_wp2
       go_ret
       exact ⟨U.told_no HF.out, BW⟩
   · have e200 : decide ((s.length : Int) ≤ 200) = false := decide_eq_false (by omega)
     have e200b : decide (s.length ≤ 200) = false := decide_eq_false h200
     by_cases hkl : ks.length = 0
     · have e9 : ((ks.length : Int) != 0) = false := by rw [hkl]; rfl
       have e9b : (ks.length != 0) = false := by rw [hkl]; rfl
       have HF : Hid (¬ E.Okk (.mk 1 a s nm ks)) := hide (okk_no (fun h => by
         have h1 := HOK.out.1 h
         exact h200 h1.2.1.1))
       go_wp2
       go_ret
       exact ⟨U.told_no HF.out, BW⟩
     · have e9 : ((ks.length : Int) != 0) = true := bne_iff_ne.2 (fun h => hkl (by omega))
       have e9b : (ks.length != 0) = true := bne_iff_ne.2 hkl
       have HF : Hid (¬ E.Okk (.mk 1 a s nm ks)) := hide (okk_no (fun h => by
         have h1 := HOK.out.1 h
         exact hkl h1.1))
       go_wp2
       go_ret
       exact ⟨U.told_no HF.out, BW⟩
 have e1 : (k == 1) = false := by simp [k1]
 by_cases k2 : k = 2
 · subst k2
   have HOK := hide (ok2 (a := a) (s := s) (nm := nm) (ks := ks))
   clear HN
   have hn2 := hnmR W2
   have HN : Hid (E.nameP nm = true ↔ E.nameP nm = true) := hide Iff.rfl
   obtain ⟨nn, hnn⟩ : ∃ nn, E.nameP nm = nn := ⟨_, rfl⟩
   rw [hnn] at hn2
   have HN : Hid (nn = true ↔ E.nameP nm = true) := hide (by rw [hnn])
   clear hnn
   go_wp2_with fail
   with_reducible refine hn2.mono ?_
   rintro e W3 ⟨rfl, rfl⟩
   have N1 := hide n2
   clear hn2 n2 hnmR
   by_cases hkl : ks.length = 0
   · have e9 : ((ks.length : Int) != 0) = false := by rw [hkl]; rfl
     have e9b : (ks.length != 0) = false := by rw [hkl]; rfl
     cases sb with
     | false =>
       have HF : Hid (¬ E.Okk (.mk 2 a s nm ks)) := hide (okk_no (fun h => by
         have h1 := HOK.out.1 h
         have := HS.out.2 h1.2.1; cases this))
       go_wp2
       go_ret
       exact ⟨U.told_no HF.out, BW⟩
     | true =>
       cases nn with
       | false =>
         have HF : Hid (¬ E.Okk (.mk 2 a s nm ks)) := hide (okk_no (fun h => by
           have h1 := HOK.out.1 h
           have := HN.out.2 h1.2.2; cases this))
         go_wp2
         go_ret
         exact ⟨U.told_no HF.out, BW⟩
       | true =>
         have HF : Hid (E.Okk (.mk 2 a s nm ks)) := hide ((E.okk_eq _).2 ⟨HOK.out.2 ⟨hkl, HS.out.1 (by first | rfl | trivial), HN.out.1 (by first | rfl | trivial)⟩, fun x hx => by
           obtain rfl : ks = [] := List.eq_nil_of_length_eq_zero hkl
           cases hx⟩)
         go_wp2
         go_loopw [6] (fun u wr => u = .int .i64 0 ∧ Below w.heap.size w wr) (fun _ _ => 0)
         case atStart => exact ⟨rfl, BW⟩
         case round =>
           obtain ⟨rfl, hB⟩ := hrel
           go_wp2
           go_ret
           exact ⟨U.told_yes HF.out, hB⟩
   · have e9 : ((ks.length : Int) != 0) = true := bne_iff_ne.2 (fun h => hkl (by omega))
     have e9b : (ks.length != 0) = true := bne_iff_ne.2 hkl
     have HF : Hid (¬ E.Okk (.mk 2 a s nm ks)) := hide (okk_no (fun h => by
       have h1 := HOK.out.1 h
       exact hkl h1.1))
     go_wp2
     go_ret
     exact ⟨U.told_no HF.out, BW⟩
 have e2 : (k == 2) = false := by simp [k2]
 have N1 := hide n2
 clear n2 hnmR hrd2
 by_cases k3 : k = 3
 · subst k3
   have HOK := hide (okK (a := a) (s := s) (nm := nm) (ks := ks) (k := 3) 0 rfl (by omega) (by omega))
   by_cases hkl : ks.length = 0
   · have e9 : ((ks.length : Int) != 0) = false := by rw [hkl]; rfl
     have e9b : (ks.length != 0) = false := by rw [hkl]; rfl
     cases sb with
     | false =>
       have HF : Hid (¬ E.Okk (.mk 3 a s nm ks)) := hide (okk_no (fun h => by
         have h1 := HOK.out.1 h
         have := HS.out.2 h1.2.1; cases this))
       go_wp2
       go_ret
       exact ⟨U.told_no HF.out, BW⟩
     | true =>
       cases nb with
       | false =>
         have HF : Hid (¬ E.Okk (.mk 3 a s nm ks)) := hide (okk_no (fun h => by
           have h1 := HOK.out.1 h
           have := HN.out.2 h1.2.2; cases this))
         go_wp2
         go_ret
         exact ⟨U.told_no HF.out, BW⟩
       | true =>
         have HF : Hid (E.Okk (.mk 3 a s nm ks)) := hide ((E.okk_eq _).2 ⟨HOK.out.2 ⟨hkl, HS.out.1 (by first | rfl | trivial), HN.out.1 (by first | rfl | trivial)⟩, fun x hx => by
           obtain rfl : ks = [] := List.eq_nil_of_length_eq_zero hkl
           cases hx⟩)
         go_wp2
         go_loopw [6] (fun u wr => u = .int .i64 0 ∧ Below w.heap.size w wr) (fun _ _ => 0)
         case atStart => exact ⟨rfl, BW⟩
         case round =>
           obtain ⟨rfl, hB⟩ := hrel
           go_wp2
           go_ret
           exact ⟨U.told_yes HF.out, hB⟩
   · have e9 : ((ks.length : Int) != 0) = true := bne_iff_ne.2 (fun h => hkl (by omega))
     have e9b : (ks.length != 0) = true := bne_iff_ne.2 hkl
     have HF : Hid (¬ E.Okk (.mk 3 a s nm ks)) := hide (okk_no (fun h => by
       have h1 := HOK.out.1 h
       exact hkl h1.1))
     go_wp2
     go_ret
     exact ⟨U.told_no HF.out, BW⟩
 have e3 : (k == 3) = false := by simp [k3]
 by_cases k45 : k = 4 ∨ k = 5
 · rcases k45 with rfl | rfl
   · have HOK := hide (okK (a := a) (s := s) (nm := nm) (ks := ks) (k := 4) 2 rfl (by omega) (by omega))
     by_cases hkl : ks.length = 2
     · have e9 : ((ks.length : Int) != 2) = false := by rw [hkl]; rfl
       have e9b : (ks.length != 2) = false := by rw [hkl]; rfl
       cases sb with
       | false =>
         have HF : Hid (¬ E.Okk (.mk 4 a s nm ks)) := hide (okk_no (fun h => by
           have h1 := HOK.out.1 h
           have := HS.out.2 h1.2.1; cases this))
         go_wp2
         go_ret
         exact ⟨U.told_no HF.out, BW⟩
       | true =>
         cases nb with
         | false =>
           have HF : Hid (¬ E.Okk (.mk 4 a s nm ks)) := hide (okk_no (fun h => by
             have h1 := HOK.out.1 h
             have := HN.out.2 h1.2.2; cases this))
           go_wp2
           go_ret
           exact ⟨U.told_no HF.out, BW⟩
         | true =>
           go_wp2
           go_loopw [6] (fun u wr => ∃ i : Nat, u = .int .i64 (i : Int) ∧ i ≤ 2 ∧ Hid (∀ x ∈ ks.take i, E.Okk x) ∧ wr.heap[w.heap.size]? = some (.cells #[.int .i64 4, .int .i64 a, .slice sp s.length sc, .string ⟨nm.toArray⟩, .slice kp ks.length kc] 26) ∧ Below w.heap.size w wr) (fun u _ => 2 - (intOf u).toNat)
           case atStart => exact ⟨0, rfl, Nat.zero_le _, hide (fun x hx => by simp at hx), N1.out, BW⟩
           case round =>
             obtain ⟨i, rfl, hi, HA, m1, hB⟩ := hrel
             clear c0 c1 c2 c3 c4 BW N1
             obtain ⟨c0, c1, c2, c3, c4⟩ := cells_five m1
             by_cases hlt : i < 2
             · have hlk : i < ks.length := by rw [hkl]; exact hlt
               obtain ⟨b, off, v, hkp, ht1, hc1⟩ := KR.get _ 0 hkr1 i hlk
               obtain ⟨d1, rfl⟩ := ht1.ndD
               subst hkp
               rw [Nat.zero_add] at hc1
               have hl1 := cells5_lt hc1
               have HX : Hid (ks.take (i + 1) = ks.take i ++ [ks[i]]) := hide (List.take_succ_eq_append_getElem hlk)
               have HM := hide (List.getElem_mem hlk)
               have hcl := ih ks[i] (List.getElem_mem hlk) d1 wr (TR.later (fun k hk => hB.block k hk) _ ht1)
               have hwl : w.heap.size < wr.heap.size := (Array.getElem?_eq_some_iff.1 m1).1
               obtain ⟨y0, y1, y2, y3, y4, ev, g0, g1, g2, g3, g4⟩ := hc1
               unfold ND.v at hcl ev
               simp only [Value.agg.injEq, Array.mk.injEq, List.cons.injEq, and_true] at ev
               obtain ⟨rfl, rfl, rfl, rfl, rfl⟩ := ev
               have hcb : ∀ j, wr.cell? ⟨b, j, none⟩ = w.cell? ⟨b, j, none⟩ := fun j => World.cell?_of_block (w := w) (a := ⟨b, j, none⟩) (hB.block b hl1)
               rw [← hcb] at g0 g1 g2 g3 g4
               clear ht1 hcb
               go_wp2_with fail
               with_reducible refine hcl.mono ?_
               rintro e W4 ⟨⟨bb, rfl, hbb⟩, hb4⟩
               have M1 := hide ((hb4.block w.heap.size hwl).trans m1)
               have HB := hide (hB.trans (hb4.mono (Nat.le_of_lt hwl)))
               have HBB := hide hbb
               clear m1 hcl hb4 hbb c0 c1 c2 c3 c4 g0 g1 g2 g3 g4
               cases bb with
               | false =>
                 have HF : Hid (¬ E.Okk (.mk 4 a s nm ks)) := hide (fun h => by
                   have h1 := ((E.okk_eq _).1 h).2 _ HM.out
                   have := HBB.out.2 h1
                   cases this)
                 clear HBB HA HX HM
                 go_wp2
                 go_ret
                 exact ⟨U.told_no HF.out, HB.out⟩
               | true =>
                 have HX2 : Hid (∀ x ∈ ks.take (i + 1), E.Okk x) := hide (fun x hx => by
                   rw [HX.out] at hx
                   rcases List.mem_append.1 hx with h | h
                   · exact HA.out x h
                   · rw [List.mem_singleton] at h
                     rw [h]
                     exact HBB.out.1 rfl)
                 clear HBB HA HX HM
                 go_wp2
                 go_roundw
                 case rel => exact ⟨i + 1, by go_num, by omega, HX2.out, M1.out, HB.out⟩
                 case measure => simp [intOf]; omega
             · obtain rfl : i = 2 := by omega
               have HF : Hid (E.Okk (.mk 4 a s nm ks)) := hide ((E.okk_eq _).2 ⟨HOK.out.2 ⟨hkl, HS.out.1 (by first | rfl | trivial), HN.out.1 (by first | rfl | trivial)⟩, fun x hx => HA.out x (by rw [List.take_of_length_le (by omega)]; exact hx)⟩)
               clear HA
               go_wp2
               go_ret
               exact ⟨U.told_yes HF.out, hB⟩
     · have e9 : ((ks.length : Int) != 2) = true := bne_iff_ne.2 (fun h => hkl (by omega))
       have e9b : (ks.length != 2) = true := bne_iff_ne.2 hkl
       have HF : Hid (¬ E.Okk (.mk 4 a s nm ks)) := hide (okk_no (fun h => by
         have h1 := HOK.out.1 h
         exact hkl h1.1))
       go_wp2
       go_ret
       exact ⟨U.told_no HF.out, BW⟩
   · have HOK := hide (okK (a := a) (s := s) (nm := nm) (ks := ks) (k := 5) 2 rfl (by omega) (by omega))
     by_cases hkl : ks.length = 2
     · have e9 : ((ks.length : Int) != 2) = false := by rw [hkl]; rfl
       have e9b : (ks.length != 2) = false := by rw [hkl]; rfl
       cases sb with
       | false =>
         have HF : Hid (¬ E.Okk (.mk 5 a s nm ks)) := hide (okk_no (fun h => by
           have h1 := HOK.out.1 h
           have := HS.out.2 h1.2.1; cases this))
         go_wp2
         go_ret
         exact ⟨U.told_no HF.out, BW⟩
       | true =>
         cases nb with
         | false =>
           have HF : Hid (¬ E.Okk (.mk 5 a s nm ks)) := hide (okk_no (fun h => by
             have h1 := HOK.out.1 h
             have := HN.out.2 h1.2.2; cases this))
           go_wp2
           go_ret
           exact ⟨U.told_no HF.out, BW⟩
         | true =>
           go_wp2
           go_loopw [6] (fun u wr => ∃ i : Nat, u = .int .i64 (i : Int) ∧ i ≤ 2 ∧ Hid (∀ x ∈ ks.take i, E.Okk x) ∧ wr.heap[w.heap.size]? = some (.cells #[.int .i64 5, .int .i64 a, .slice sp s.length sc, .string ⟨nm.toArray⟩, .slice kp ks.length kc] 26) ∧ Below w.heap.size w wr) (fun u _ => 2 - (intOf u).toNat)
           case atStart => exact ⟨0, rfl, Nat.zero_le _, hide (fun x hx => by simp at hx), N1.out, BW⟩
           case round =>
             obtain ⟨i, rfl, hi, HA, m1, hB⟩ := hrel
             clear c0 c1 c2 c3 c4 BW N1
             obtain ⟨c0, c1, c2, c3, c4⟩ := cells_five m1
             by_cases hlt : i < 2
             · have hlk : i < ks.length := by rw [hkl]; exact hlt
               obtain ⟨b, off, v, hkp, ht1, hc1⟩ := KR.get _ 0 hkr1 i hlk
               obtain ⟨d1, rfl⟩ := ht1.ndD
               subst hkp
               rw [Nat.zero_add] at hc1
               have hl1 := cells5_lt hc1
               have HX : Hid (ks.take (i + 1) = ks.take i ++ [ks[i]]) := hide (List.take_succ_eq_append_getElem hlk)
               have HM := hide (List.getElem_mem hlk)
               have hcl := ih ks[i] (List.getElem_mem hlk) d1 wr (TR.later (fun k hk => hB.block k hk) _ ht1)
               have hwl : w.heap.size < wr.heap.size := (Array.getElem?_eq_some_iff.1 m1).1
               obtain ⟨y0, y1, y2, y3, y4, ev, g0, g1, g2, g3, g4⟩ := hc1
               unfold ND.v at hcl ev
               simp only [Value.agg.injEq, Array.mk.injEq, List.cons.injEq, and_true] at ev
               obtain ⟨rfl, rfl, rfl, rfl, rfl⟩ := ev
               have hcb : ∀ j, wr.cell? ⟨b, j, none⟩ = w.cell? ⟨b, j, none⟩ := fun j => World.cell?_of_block (w := w) (a := ⟨b, j, none⟩) (hB.block b hl1)
               rw [← hcb] at g0 g1 g2 g3 g4
               clear ht1 hcb
               go_wp2_with fail
               with_reducible refine hcl.mono ?_
               rintro e W4 ⟨⟨bb, rfl, hbb⟩, hb4⟩
               have M1 := hide ((hb4.block w.heap.size hwl).trans m1)
               have HB := hide (hB.trans (hb4.mono (Nat.le_of_lt hwl)))
               have HBB := hide hbb
               clear m1 hcl hb4 hbb c0 c1 c2 c3 c4 g0 g1 g2 g3 g4
               cases bb with
               | false =>
                 have HF : Hid (¬ E.Okk (.mk 5 a s nm ks)) := hide (fun h => by
                   have h1 := ((E.okk_eq _).1 h).2 _ HM.out
                   have := HBB.out.2 h1
                   cases this)
                 clear HBB HA HX HM
                 go_wp2
                 go_ret
                 exact ⟨U.told_no HF.out, HB.out⟩
               | true =>
                 have HX2 : Hid (∀ x ∈ ks.take (i + 1), E.Okk x) := hide (fun x hx => by
                   rw [HX.out] at hx
                   rcases List.mem_append.1 hx with h | h
                   · exact HA.out x h
                   · rw [List.mem_singleton] at h
                     rw [h]
                     exact HBB.out.1 rfl)
                 clear HBB HA HX HM
                 go_wp2
                 go_roundw
                 case rel => exact ⟨i + 1, by go_num, by omega, HX2.out, M1.out, HB.out⟩
                 case measure => simp [intOf]; omega
             · obtain rfl : i = 2 := by omega
               have HF : Hid (E.Okk (.mk 5 a s nm ks)) := hide ((E.okk_eq _).2 ⟨HOK.out.2 ⟨hkl, HS.out.1 (by first | rfl | trivial), HN.out.1 (by first | rfl | trivial)⟩, fun x hx => HA.out x (by rw [List.take_of_length_le (by omega)]; exact hx)⟩)
               clear HA
               go_wp2
               go_ret
               exact ⟨U.told_yes HF.out, hB⟩
     · have e9 : ((ks.length : Int) != 2) = true := bne_iff_ne.2 (fun h => hkl (by omega))
       have e9b : (ks.length != 2) = true := bne_iff_ne.2 hkl
       have HF : Hid (¬ E.Okk (.mk 5 a s nm ks)) := hide (okk_no (fun h => by
         have h1 := HOK.out.1 h
         exact hkl h1.1))
       go_wp2
       go_ret
       exact ⟨U.told_no HF.out, BW⟩
 have e4 : (k == 4) = false := by simp; omega
 have e5 : (k == 5) = false := by simp; omega
 by_cases k678 : k = 6 ∨ k = 7 ∨ k = 8
 · rcases k678 with rfl | rfl | rfl
   · have HOK := hide (okK (a := a) (s := s) (nm := nm) (ks := ks) (k := 6) 1 rfl (by omega) (by omega))
     by_cases hkl : ks.length = 1
     · have e9 : ((ks.length : Int) != 1) = false := by rw [hkl]; rfl
       have e9b : (ks.length != 1) = false := by rw [hkl]; rfl
       cases sb with
       | false =>
         have HF : Hid (¬ E.Okk (.mk 6 a s nm ks)) := hide (okk_no (fun h => by
           have h1 := HOK.out.1 h
           have := HS.out.2 h1.2.1; cases this))
         go_wp2
         go_ret
         exact ⟨U.told_no HF.out, BW⟩
       | true =>
         cases nb with
         | false =>
           have HF : Hid (¬ E.Okk (.mk 6 a s nm ks)) := hide (okk_no (fun h => by
             have h1 := HOK.out.1 h
             have := HN.out.2 h1.2.2; cases this))
           go_wp2
           go_ret
           exact ⟨U.told_no HF.out, BW⟩
         | true =>
           go_wp2
           go_loopw [6] (fun u wr => ∃ i : Nat, u = .int .i64 (i : Int) ∧ i ≤ 1 ∧ Hid (∀ x ∈ ks.take i, E.Okk x) ∧ wr.heap[w.heap.size]? = some (.cells #[.int .i64 6, .int .i64 a, .slice sp s.length sc, .string ⟨nm.toArray⟩, .slice kp ks.length kc] 26) ∧ Below w.heap.size w wr) (fun u _ => 1 - (intOf u).toNat)
           case atStart => exact ⟨0, rfl, Nat.zero_le _, hide (fun x hx => by simp at hx), N1.out, BW⟩
           case round =>
             obtain ⟨i, rfl, hi, HA, m1, hB⟩ := hrel
             clear c0 c1 c2 c3 c4 BW N1
             obtain ⟨c0, c1, c2, c3, c4⟩ := cells_five m1
             by_cases hlt : i < 1
             · have hlk : i < ks.length := by rw [hkl]; exact hlt
               obtain ⟨b, off, v, hkp, ht1, hc1⟩ := KR.get _ 0 hkr1 i hlk
               obtain ⟨d1, rfl⟩ := ht1.ndD
               subst hkp
               rw [Nat.zero_add] at hc1
               have hl1 := cells5_lt hc1
               have HX : Hid (ks.take (i + 1) = ks.take i ++ [ks[i]]) := hide (List.take_succ_eq_append_getElem hlk)
               have HM := hide (List.getElem_mem hlk)
               have hcl := ih ks[i] (List.getElem_mem hlk) d1 wr (TR.later (fun k hk => hB.block k hk) _ ht1)
               have hwl : w.heap.size < wr.heap.size := (Array.getElem?_eq_some_iff.1 m1).1
               obtain ⟨y0, y1, y2, y3, y4, ev, g0, g1, g2, g3, g4⟩ := hc1
               unfold ND.v at hcl ev
               simp only [Value.agg.injEq, Array.mk.injEq, List.cons.injEq, and_true] at ev
               obtain ⟨rfl, rfl, rfl, rfl, rfl⟩ := ev
               have hcb : ∀ j, wr.cell? ⟨b, j, none⟩ = w.cell? ⟨b, j, none⟩ := fun j => World.cell?_of_block (w := w) (a := ⟨b, j, none⟩) (hB.block b hl1)
               rw [← hcb] at g0 g1 g2 g3 g4
               clear ht1 hcb
               go_wp2_with fail
               with_reducible refine hcl.mono ?_
               rintro e W4 ⟨⟨bb, rfl, hbb⟩, hb4⟩
               have M1 := hide ((hb4.block w.heap.size hwl).trans m1)
               have HB := hide (hB.trans (hb4.mono (Nat.le_of_lt hwl)))
               have HBB := hide hbb
               clear m1 hcl hb4 hbb c0 c1 c2 c3 c4 g0 g1 g2 g3 g4
               cases bb with
               | false =>
                 have HF : Hid (¬ E.Okk (.mk 6 a s nm ks)) := hide (fun h => by
                   have h1 := ((E.okk_eq _).1 h).2 _ HM.out
                   have := HBB.out.2 h1
                   cases this)
                 clear HBB HA HX HM
                 go_wp2
                 go_ret
                 exact ⟨U.told_no HF.out, HB.out⟩
               | true =>
                 have HX2 : Hid (∀ x ∈ ks.take (i + 1), E.Okk x) := hide (fun x hx => by
                   rw [HX.out] at hx
                   rcases List.mem_append.1 hx with h | h
                   · exact HA.out x h
                   · rw [List.mem_singleton] at h
                     rw [h]
                     exact HBB.out.1 rfl)
                 clear HBB HA HX HM
                 go_wp2
                 go_roundw
                 case rel => exact ⟨i + 1, by go_num, by omega, HX2.out, M1.out, HB.out⟩
                 case measure => simp [intOf]; omega
             · obtain rfl : i = 1 := by omega
               have HF : Hid (E.Okk (.mk 6 a s nm ks)) := hide ((E.okk_eq _).2 ⟨HOK.out.2 ⟨hkl, HS.out.1 (by first | rfl | trivial), HN.out.1 (by first | rfl | trivial)⟩, fun x hx => HA.out x (by rw [List.take_of_length_le (by omega)]; exact hx)⟩)
               clear HA
               go_wp2
               go_ret
               exact ⟨U.told_yes HF.out, hB⟩
     · have e9 : ((ks.length : Int) != 1) = true := bne_iff_ne.2 (fun h => hkl (by omega))
       have e9b : (ks.length != 1) = true := bne_iff_ne.2 hkl
       have HF : Hid (¬ E.Okk (.mk 6 a s nm ks)) := hide (okk_no (fun h => by
         have h1 := HOK.out.1 h
         exact hkl h1.1))
       go_wp2
       go_ret
       exact ⟨U.told_no HF.out, BW⟩
   · have HOK := hide (okK (a := a) (s := s) (nm := nm) (ks := ks) (k := 7) 1 rfl (by omega) (by omega))
     by_cases hkl : ks.length = 1
     · have e9 : ((ks.length : Int) != 1) = false := by rw [hkl]; rfl
       have e9b : (ks.length != 1) = false := by rw [hkl]; rfl
       cases sb with
       | false =>
         have HF : Hid (¬ E.Okk (.mk 7 a s nm ks)) := hide (okk_no (fun h => by
           have h1 := HOK.out.1 h
           have := HS.out.2 h1.2.1; cases this))
         go_wp2
         go_ret
         exact ⟨U.told_no HF.out, BW⟩
       | true =>
         cases nb with
         | false =>
           have HF : Hid (¬ E.Okk (.mk 7 a s nm ks)) := hide (okk_no (fun h => by
             have h1 := HOK.out.1 h
             have := HN.out.2 h1.2.2; cases this))
           go_wp2
           go_ret
           exact ⟨U.told_no HF.out, BW⟩
         | true =>
           go_wp2
           go_loopw [6] (fun u wr => ∃ i : Nat, u = .int .i64 (i : Int) ∧ i ≤ 1 ∧ Hid (∀ x ∈ ks.take i, E.Okk x) ∧ wr.heap[w.heap.size]? = some (.cells #[.int .i64 7, .int .i64 a, .slice sp s.length sc, .string ⟨nm.toArray⟩, .slice kp ks.length kc] 26) ∧ Below w.heap.size w wr) (fun u _ => 1 - (intOf u).toNat)
           case atStart => exact ⟨0, rfl, Nat.zero_le _, hide (fun x hx => by simp at hx), N1.out, BW⟩
           case round =>
             obtain ⟨i, rfl, hi, HA, m1, hB⟩ := hrel
             clear c0 c1 c2 c3 c4 BW N1
             obtain ⟨c0, c1, c2, c3, c4⟩ := cells_five m1
             by_cases hlt : i < 1
             · have hlk : i < ks.length := by rw [hkl]; exact hlt
               obtain ⟨b, off, v, hkp, ht1, hc1⟩ := KR.get _ 0 hkr1 i hlk
               obtain ⟨d1, rfl⟩ := ht1.ndD
               subst hkp
               rw [Nat.zero_add] at hc1
               have hl1 := cells5_lt hc1
               have HX : Hid (ks.take (i + 1) = ks.take i ++ [ks[i]]) := hide (List.take_succ_eq_append_getElem hlk)
               have HM := hide (List.getElem_mem hlk)
               have hcl := ih ks[i] (List.getElem_mem hlk) d1 wr (TR.later (fun k hk => hB.block k hk) _ ht1)
               have hwl : w.heap.size < wr.heap.size := (Array.getElem?_eq_some_iff.1 m1).1
               obtain ⟨y0, y1, y2, y3, y4, ev, g0, g1, g2, g3, g4⟩ := hc1
               unfold ND.v at hcl ev
               simp only [Value.agg.injEq, Array.mk.injEq, List.cons.injEq, and_true] at ev
               obtain ⟨rfl, rfl, rfl, rfl, rfl⟩ := ev
               have hcb : ∀ j, wr.cell? ⟨b, j, none⟩ = w.cell? ⟨b, j, none⟩ := fun j => World.cell?_of_block (w := w) (a := ⟨b, j, none⟩) (hB.block b hl1)
               rw [← hcb] at g0 g1 g2 g3 g4
               clear ht1 hcb
               go_wp2_with fail
               with_reducible refine hcl.mono ?_
               rintro e W4 ⟨⟨bb, rfl, hbb⟩, hb4⟩
               have M1 := hide ((hb4.block w.heap.size hwl).trans m1)
               have HB := hide (hB.trans (hb4.mono (Nat.le_of_lt hwl)))
               have HBB := hide hbb
               clear m1 hcl hb4 hbb c0 c1 c2 c3 c4 g0 g1 g2 g3 g4
               cases bb with
               | false =>
                 have HF : Hid (¬ E.Okk (.mk 7 a s nm ks)) := hide (fun h => by
                   have h1 := ((E.okk_eq _).1 h).2 _ HM.out
                   have := HBB.out.2 h1
                   cases this)
                 clear HBB HA HX HM
                 go_wp2
                 go_ret
                 exact ⟨U.told_no HF.out, HB.out⟩
               | true =>
                 have HX2 : Hid (∀ x ∈ ks.take (i + 1), E.Okk x) := hide (fun x hx => by
                   rw [HX.out] at hx
                   rcases List.mem_append.1 hx with h | h
                   · exact HA.out x h
                   · rw [List.mem_singleton] at h
                     rw [h]
                     exact HBB.out.1 rfl)
                 clear HBB HA HX HM
                 go_wp2
                 go_roundw
                 case rel => exact ⟨i + 1, by go_num, by omega, HX2.out, M1.out, HB.out⟩
                 case measure => simp [intOf]; omega
             · obtain rfl : i = 1 := by omega
               have HF : Hid (E.Okk (.mk 7 a s nm ks)) := hide ((E.okk_eq _).2 ⟨HOK.out.2 ⟨hkl, HS.out.1 (by first | rfl | trivial), HN.out.1 (by first | rfl | trivial)⟩, fun x hx => HA.out x (by rw [List.take_of_length_le (by omega)]; exact hx)⟩)
               clear HA
               go_wp2
               go_ret
               exact ⟨U.told_yes HF.out, hB⟩
     · have e9 : ((ks.length : Int) != 1) = true := bne_iff_ne.2 (fun h => hkl (by omega))
       have e9b : (ks.length != 1) = true := bne_iff_ne.2 hkl
       have HF : Hid (¬ E.Okk (.mk 7 a s nm ks)) := hide (okk_no (fun h => by
         have h1 := HOK.out.1 h
         exact hkl h1.1))
       go_wp2
       go_ret
       exact ⟨U.told_no HF.out, BW⟩
   · have HOK := hide (okK (a := a) (s := s) (nm := nm) (ks := ks) (k := 8) 1 rfl (by omega) (by omega))
     by_cases hkl : ks.length = 1
     · have e9 : ((ks.length : Int) != 1) = false := by rw [hkl]; rfl
       have e9b : (ks.length != 1) = false := by rw [hkl]; rfl
       cases sb with
       | false =>
         have HF : Hid (¬ E.Okk (.mk 8 a s nm ks)) := hide (okk_no (fun h => by
           have h1 := HOK.out.1 h
           have := HS.out.2 h1.2.1; cases this))
         go_wp2
         go_ret
         exact ⟨U.told_no HF.out, BW⟩
       | true =>
         cases nb with
         | false =>
           have HF : Hid (¬ E.Okk (.mk 8 a s nm ks)) := hide (okk_no (fun h => by
             have h1 := HOK.out.1 h
             have := HN.out.2 h1.2.2; cases this))
           go_wp2
           go_ret
           exact ⟨U.told_no HF.out, BW⟩
         | true =>
           go_wp2
           go_loopw [6] (fun u wr => ∃ i : Nat, u = .int .i64 (i : Int) ∧ i ≤ 1 ∧ Hid (∀ x ∈ ks.take i, E.Okk x) ∧ wr.heap[w.heap.size]? = some (.cells #[.int .i64 8, .int .i64 a, .slice sp s.length sc, .string ⟨nm.toArray⟩, .slice kp ks.length kc] 26) ∧ Below w.heap.size w wr) (fun u _ => 1 - (intOf u).toNat)
           case atStart => exact ⟨0, rfl, Nat.zero_le _, hide (fun x hx => by simp at hx), N1.out, BW⟩
           case round =>
             obtain ⟨i, rfl, hi, HA, m1, hB⟩ := hrel
             clear c0 c1 c2 c3 c4 BW N1
             obtain ⟨c0, c1, c2, c3, c4⟩ := cells_five m1
             by_cases hlt : i < 1
             · have hlk : i < ks.length := by rw [hkl]; exact hlt
               obtain ⟨b, off, v, hkp, ht1, hc1⟩ := KR.get _ 0 hkr1 i hlk
               obtain ⟨d1, rfl⟩ := ht1.ndD
               subst hkp
               rw [Nat.zero_add] at hc1
               have hl1 := cells5_lt hc1
               have HX : Hid (ks.take (i + 1) = ks.take i ++ [ks[i]]) := hide (List.take_succ_eq_append_getElem hlk)
               have HM := hide (List.getElem_mem hlk)
               have hcl := ih ks[i] (List.getElem_mem hlk) d1 wr (TR.later (fun k hk => hB.block k hk) _ ht1)
               have hwl : w.heap.size < wr.heap.size := (Array.getElem?_eq_some_iff.1 m1).1
               obtain ⟨y0, y1, y2, y3, y4, ev, g0, g1, g2, g3, g4⟩ := hc1
               unfold ND.v at hcl ev
               simp only [Value.agg.injEq, Array.mk.injEq, List.cons.injEq, and_true] at ev
               obtain ⟨rfl, rfl, rfl, rfl, rfl⟩ := ev
               have hcb : ∀ j, wr.cell? ⟨b, j, none⟩ = w.cell? ⟨b, j, none⟩ := fun j => World.cell?_of_block (w := w) (a := ⟨b, j, none⟩) (hB.block b hl1)
               rw [← hcb] at g0 g1 g2 g3 g4
               clear ht1 hcb
               go_wp2_with fail
               with_reducible refine hcl.mono ?_
               rintro e W4 ⟨⟨bb, rfl, hbb⟩, hb4⟩
               have M1 := hide ((hb4.block w.heap.size hwl).trans m1)
               have HB := hide (hB.trans (hb4.mono (Nat.le_of_lt hwl)))
               have HBB := hide hbb
               clear m1 hcl hb4 hbb c0 c1 c2 c3 c4 g0 g1 g2 g3 g4
               cases bb with
               | false =>
                 have HF : Hid (¬ E.Okk (.mk 8 a s nm ks)) := hide (fun h => by
                   have h1 := ((E.okk_eq _).1 h).2 _ HM.out
                   have := HBB.out.2 h1
                   cases this)
                 clear HBB HA HX HM
                 go_wp2
                 go_ret
                 exact ⟨U.told_no HF.out, HB.out⟩
               | true =>
                 have HX2 : Hid (∀ x ∈ ks.take (i + 1), E.Okk x) := hide (fun x hx => by
                   rw [HX.out] at hx
                   rcases List.mem_append.1 hx with h | h
                   · exact HA.out x h
                   · rw [List.mem_singleton] at h
                     rw [h]
                     exact HBB.out.1 rfl)
                 clear HBB HA HX HM
                 go_wp2
                 go_roundw
                 case rel => exact ⟨i + 1, by go_num, by omega, HX2.out, M1.out, HB.out⟩
                 case measure => simp [intOf]; omega
             · obtain rfl : i = 1 := by omega
               have HF : Hid (E.Okk (.mk 8 a s nm ks)) := hide ((E.okk_eq _).2 ⟨HOK.out.2 ⟨hkl, HS.out.1 (by first | rfl | trivial), HN.out.1 (by first | rfl | trivial)⟩, fun x hx => HA.out x (by rw [List.take_of_length_le (by omega)]; exact hx)⟩)
               clear HA
               go_wp2
               go_ret
               exact ⟨U.told_yes HF.out, hB⟩
     · have e9 : ((ks.length : Int) != 1) = true := bne_iff_ne.2 (fun h => hkl (by omega))
       have e9b : (ks.length != 1) = true := bne_iff_ne.2 hkl
       have HF : Hid (¬ E.Okk (.mk 8 a s nm ks)) := hide (okk_no (fun h => by
         have h1 := HOK.out.1 h
         exact hkl h1.1))
       go_wp2
       go_ret
       exact ⟨U.told_no HF.out, BW⟩
 have e6 : (k == 6) = false := by simp; omega
 have e7 : (k == 7) = false := by simp; omega
 have e8 : (k == 8) = false := by simp; omega
 have HF : Hid (¬ E.Okk (.mk k a s nm ks)) := hide (okk_no (okN (by omega)))
 go_wp2
 go_ret
 exact ⟨U.told_no HF.out, BW⟩
theorem form_n : ∀ (n : Nat) (t : T), SizeOf.sizeOf t < n → InT t → ∀ (d : ND) (w : World), TR w (fun _ => True) t d.v → Calls Tryz.prog 53 #[d.v] w fun e w' => U.Told (E.Okk t) e ∧ Below w.heap.size w w'
 | 0, _, h, _ => absurd h (Nat.not_lt_zero _)
 | n + 1, .mk k a s nm ks, h, hF => fun d w hd => form_step k a s nm ks (hF (.mk k a s nm ks, .mk k a s nm ks) (by rw [pre_self]; exact List.mem_cons_self)) (fun t ht => form_n n t (by
     have := List.sizeOf_lt_of_mem ht
     simp at h
     omega) (fun p hp => hF p (by rw [pre_self]; exact List.mem_cons_of_mem _ (List.mem_flatMap.2 ⟨t, ht, hp⟩)))) d w hd
set_option maxRecDepth 100000 in
set_option maxHeartbeats 1000000 in
theorem isR_any (t : T) (hF : InT t) (d : ND) (w : World) (hd : TR w (fun _ => True) t d.v) : Calls Tryz.prog 18 #[d.v] w fun e w' => U.Told (E.IsP t) e ∧ Below w.heap.size w w' := by
 have HI : Hid (E.IsP t ↔ sz t ≤ 400 ∧ E.Okk t) := hide Iff.rfl
 have a1 := al1 w (.cells #[.int .i64 d.k, .int .i64 d.a, .slice d.sp d.sl d.sc, .string d.n, .slice d.kp d.kl d.kc] 26)
 have n1 := heap_alloc_new w (.cells #[.int .i64 d.k, .int .i64 d.a, .slice d.sp d.sl d.sc, .string d.n, .slice d.kp d.kl d.kc] 26)
 have h1 := count_any t hF d _ 400 (by omega) (TR.later (fun k hk => a1.block k hk) _ hd)
 obtain ⟨X1, hX1⟩ : ∃ X1, w.alloc (.cells #[.int .i64 d.k, .int .i64 d.a, .slice d.sp d.sl d.sc, .string d.n, .slice d.kp d.kl d.kc] 26) = X1 := ⟨_, rfl⟩
 rw [hX1] at a1 n1 h1
 obtain ⟨c0, c1, c2, c3, c4⟩ := cells_five n1
 obtain ⟨r, hr⟩ : ∃ r : Nat, min (sz t) (400 + 1) = r := ⟨_, rfl⟩
 rw [hr] at h1
 have HR := hide hr
 have hrb : r ≤ 401 := by omega
 clear hr
 rw [show ((400 : Nat) : Int) = 400 from rfl] at h1
 unfold ND.v at h1
 have hd' := hd
 unfold ND.v
 by_cases hr2 : r ≤ 400
 · have er : decide ((r : Int) ≤ 400) = true := decide_eq_true (by omega)
   have er2 : decide (r ≤ 400) = true := decide_eq_true hr2
   have HS : Hid (sz t ≤ 400) := hide (by have := HR.out; omega)
   clear hr2
   go_enter Tryz.func18, Tryz.ntmps18
   go_wp2_with fail
   with_reducible refine h1.mono ?_
   rintro e W2 ⟨rfl, hb2⟩
   have B2 := nx a1 hb2
   have m1 := (hb2.block w.heap.size (Array.getElem?_eq_some_iff.1 n1).1).trans n1
   have h2 := form_n (SizeOf.sizeOf t + 1) t (Nat.lt_succ_self _) hF d W2 (TR.later (fun k hk => B2.block k hk) _ hd)
   unfold ND.v at h2
   clear c0 c1 c2 c3 c4 n1 hX1 hd hd' h1
   obtain ⟨c0, c1, c2, c3, c4⟩ := cells_five m1
   go_wp2_with fail
   with_reducible refine h2.mono ?_
   rintro e W3 ⟨⟨b, rfl, hb⟩, hb3⟩
   have HB := hide hb
   have B3 := nx B2 hb3
   clear hb hb3 h2
   go_wp2
   go_ret
   exact ⟨⟨b, rfl, HB.out.trans ⟨fun h => HI.out.2 ⟨HS.out, h⟩, fun h => (HI.out.1 h).2⟩⟩, B3⟩
 · have er : decide ((r : Int) ≤ 400) = false := decide_eq_false (by omega)
   have er2 : decide (r ≤ 400) = false := decide_eq_false hr2
   have HS : Hid (¬ sz t ≤ 400) := hide (by have := HR.out; omega)
   clear hr2
   go_enter Tryz.func18, Tryz.ntmps18
   go_wp2_with fail
   with_reducible refine h1.mono ?_
   rintro e W2 ⟨rfl, hb2⟩
   have B2 := nx a1 hb2
   clear h1 hd hd'
   go_wp2
   go_ret
   exact ⟨U.told_no (fun h => HS.out (HI.out.1 h).1), B2⟩
end Go.Proofs.YteaaijhppmkfeaaGreatDoor
namespace Go.Proofs.YteaaijhppmkfeaaGreatDoor
open Go.RowKit Go.Shelf
open E (T)
attribute [local go_sem] Oper.semAt_some
theorem ldK {w : World} {ρ : Operand → Value} {o : Oper} {x : Operand} {b off : Nat} {u0 u1 u2 u3 u4 : Value} (hop : o.op = .load 26 x) (hx : ρ x = .pointer (some ⟨b, off, none⟩)) (c0 : w.cell? ⟨b, off, none⟩ = some u0) (c1 : w.cell? ⟨b, off + 1, none⟩ = some u1) (c2 : w.cell? ⟨b, off + 2, none⟩ = some u2) (c3 : w.cell? ⟨b, off + 3, none⟩ = some u3) (c4 : w.cell? ⟨b, off + 4, none⟩ = some u4) : (execOp ρ o).run Tryz.prog w = .ok (.value (.agg #[u0, u1, u2, u3, u4])) w := by
 obtain ⟨dst, op, type, pos, after, guard⟩ := o
 simp only at hop
 subst hop
 have hsz := Tryz.sizeOf26 w
 have hag := Tryz.isAgg26 w
 simp [execOp, hx, Instr.loadAt, Instr.sureAddr, loadVar, Sem.run_bind, hsz, hag, Result.andThen, go_sem, c0, c1, c2, c3, c4]
namespace E
theorem mem_preK : ∀ (xs ys : List T) (p : T × T), p ∈ preK xs ys ↔ ∃ i, ∃ (h1 : i < xs.length) (h2 : i < ys.length), p ∈ pre xs[i] ys[i]
 | [], ys, p => by rw [preK_nil]; simp
 | x :: xs, [], p => by rw [preK_nilr]; simp
 | x :: xs, y :: ys, p => by
   rw [preK_cons, List.mem_append, mem_preK xs ys p]
   constructor
   · rintro (h | ⟨i, h1, h2, h⟩)
     · exact ⟨0, by simp, by simp, h⟩
     · exact ⟨i + 1, by simpa using h1, by simpa using h2, by simpa using h⟩
   · rintro ⟨i, h1, h2, h⟩
     cases i with
     | zero => exact .inl h
     | succ i => exact .inr ⟨i, by simpa using h1, by simpa using h2, by simpa using h⟩
end E
theorem allL_eq (a b : T) : AllL (E.pre a b) ↔ E.Like a b ∧ ∀ i (h1 : i < a.kids.length) (h2 : i < b.kids.length), AllL (E.pre a.kids[i] b.kids[i]) := by
 unfold AllL
 rw [E.pre_eq]
 constructor
 · intro h
   exact ⟨h _ List.mem_cons_self, fun i h1 h2 p hp => h p (List.mem_cons_of_mem _ ((E.mem_preK _ _ _).2 ⟨i, h1, h2, hp⟩))⟩
 · rintro ⟨h1, h2⟩ p hp
   rcases List.mem_cons.1 hp with rfl | hp
   · exact h1
   · obtain ⟨i, g1, g2, hp⟩ := (E.mem_preK _ _ _).1 hp
     exact h2 i g1 g2 p hp
set_option maxRecDepth 100000 in
set_option maxHeartbeats 2000000 in
theorem sameR_step (k a : Int) (s : E.Rs) (nm : List UInt8) (ks : List T) (hNB : E.NodeB (.mk k a s nm ks))
   (ih : ∀ t ∈ ks, ∀ (u : T) (d e : ND) (w : World), TR w (fun _ => True) t d.v → TR w (fun _ => True) u e.v → Calls Tryz.prog 28 #[d.v, e.v] w fun r w' => U.Told (AllL (E.pre t u)) r ∧ Below w.heap.size w w')
   (k2 a2 : Int) (s2 : E.Rs) (nm2 : List UInt8) (ks2 : List T) (d e : ND) (w : World) (hd : TR w (fun _ => True) (.mk k a s nm ks) d.v) (he : TR w (fun _ => True) (.mk k2 a2 s2 nm2 ks2) e.v) :
   Calls Tryz.prog 28 #[d.v, e.v] w fun r w' => U.Told (AllL (E.pre (.mk k a s nm ks) (.mk k2 a2 s2 nm2 ks2))) r ∧ Below w.heap.size w w' := by
 obtain ⟨_, _, hsl, hkl⟩ := hNB
 simp only [E.T.set, E.T.kids] at hsl hkl
 have HNO : Hid (¬ E.Like (.mk k a s nm ks) (.mk k2 a2 s2 nm2 ks2) → ¬ AllL (E.pre (.mk k a s nm ks) (.mk k2 a2 s2 nm2 ks2))) := hide (fun h h' => h ((allL_eq _ _).1 h').1)
 have HEQ := hide (allL_eq (.mk k a s nm ks) (.mk k2 a2 s2 nm2 ks2))
 simp only [E.Like, E.T.kind, E.T.name, E.T.set, E.T.kids] at HNO HEQ
 rw [TR] at hd he
 obtain ⟨sp, sc, kp, kc, e1, hr1, hk1, hkr1⟩ := hd
 obtain ⟨sp2, sc2, kp2, kc2, e2, hr2, hk2, hkr2⟩ := he
 rw [e1, e2]
 clear e1 e2
 generalize AllL (E.pre (.mk k a s nm ks) (.mk k2 a2 s2 nm2 ks2)) = G at *
 have a1 := al1 w (.cells #[.int .i64 k, .int .i64 a, .slice sp s.length sc, .string ⟨nm.toArray⟩, .slice kp ks.length kc] 26)
 have n1 := heap_alloc_new w (.cells #[.int .i64 k, .int .i64 a, .slice sp s.length sc, .string ⟨nm.toArray⟩, .slice kp ks.length kc] 26)
 obtain ⟨X1, hX1⟩ : ∃ X1, w.alloc (.cells #[.int .i64 k, .int .i64 a, .slice sp s.length sc, .string ⟨nm.toArray⟩, .slice kp ks.length kc] 26) = X1 := ⟨_, rfl⟩
 rw [hX1] at a1 n1
 have x2 := al1 X1 (.cells #[.int .i64 k2, .int .i64 a2, .slice sp2 s2.length sc2, .string ⟨nm2.toArray⟩, .slice kp2 ks2.length kc2] 26)
 have n2 := heap_alloc_new X1 (.cells #[.int .i64 k2, .int .i64 a2, .slice sp2 s2.length sc2, .string ⟨nm2.toArray⟩, .slice kp2 ks2.length kc2] 26)
 have n1' := (x2.block w.heap.size (Array.getElem?_eq_some_iff.1 n1).1).trans n1
 obtain ⟨X2, hX2⟩ : ∃ X2, X1.alloc (.cells #[.int .i64 k2, .int .i64 a2, .slice sp2 s2.length sc2, .string ⟨nm2.toArray⟩, .slice kp2 ks2.length kc2] 26) = X2 := ⟨_, rfl⟩
 rw [hX2] at x2 n2 n1'
 have bW := nx a1 x2
 obtain ⟨c0, c1, c2, c3, c4⟩ := cells_five n1'
 obtain ⟨q0, q1, q2, q3, q4⟩ := cells_five n2
 have hsm := U.refSame_any sp sp2 sc sc2 s s2 hsl X2 (hr1.later bW) (hr2.later bW)
 have N1 := hide n1'
 have N2 := hide n2
 clear a1 x2 n1 n2 n1' hr1 hr2
 by_cases hk : k = k2
 · subst hk
   by_cases hn : nm = nm2
   · subst hn
     go_enter Tryz.func28, Tryz.ntmps28
     go_wp2_with fail
     refine hsm.mono ?_
     rintro r X3 ⟨⟨b, rfl, hb⟩, hb3⟩
     have bW3 := nx bW hb3
     have m1 := (hb3.block w.heap.size (Array.getElem?_eq_some_iff.1 N1.out).1).trans N1.out
     have m2 := (hb3.block X1.heap.size (Array.getElem?_eq_some_iff.1 N2.out).1).trans N2.out
     obtain ⟨c0', c1', c2', c3', c4'⟩ := cells_five m1
     obtain ⟨q0', q1', q2', q3', q4'⟩ := cells_five m2
     have HB := hide hb
     clear hsm hb hb3 bW N1 N2 hX1 hX2 c0 c1 c2 c3 c4 q0 q1 q2 q3 q4
     cases b with
     | false =>
       have HF : Hid (¬ G) := hide (HNO.out (fun h => by have := HB.out.2 h.2.2.1; cases this))
       go_wp2
       go_ret
       exact ⟨U.told_no HF.out, bW3⟩
     | true =>
       have hs : s = s2 := HB.out.1 rfl
       clear HB
       by_cases hl : ks.length = ks2.length
       · have HG : Hid (G ↔ ∀ i (h1 : i < ks.length) (h2 : i < ks2.length), AllL (E.pre ks[i] ks2[i])) := hide (HEQ.out.trans ⟨fun h => h.2, fun h => ⟨⟨by first | rfl | trivial, by first | rfl | trivial, hs, hl⟩, h⟩⟩)
         have HL := hide hl
         have el : ((ks.length : Int) != (ks2.length : Int)) = false := by simp [hl]
         have el2 : (ks.length != ks2.length) = false := by simp [hl]
         clear HNO HEQ hs hl
         have M1 := hide m1
         have M2 := hide m2
         clear m1 m2
         go_wp2
         go_loopw [5] (fun u wr => ∃ i : Nat, u = .int .i64 (i : Int) ∧ i ≤ ks.length ∧ Hid (∀ j (h1 : j < ks.length) (h2 : j < ks2.length), j < i → AllL (E.pre ks[j] ks2[j])) ∧ wr.heap[w.heap.size]? = some (.cells #[.int .i64 k, .int .i64 a, .slice sp s.length sc, .string ⟨nm.toArray⟩, .slice kp ks.length kc] 26) ∧ wr.heap[X1.heap.size]? = some (.cells #[.int .i64 k, .int .i64 a2, .slice sp2 s2.length sc2, .string ⟨nm.toArray⟩, .slice kp2 ks2.length kc2] 26) ∧ Below w.heap.size w wr) (fun u _ => ks.length - (intOf u).toNat)
         case atStart => exact ⟨0, rfl, Nat.zero_le _, hide (fun j _ _ h => by omega), M1.out, M2.out, bW3⟩
         case round =>
           obtain ⟨i, rfl, hi, HA, m1, m2, hB⟩ := hrel
           clear c0' c1' c2' c3' c4' q0' q1' q2' q3' q4' M1 M2 bW3
           obtain ⟨c0, c1, c2, c3, c4⟩ := cells_five m1
           obtain ⟨q0, q1, q2, q3, q4⟩ := cells_five m2
           by_cases hlt : i < ks.length
           · have hlt2 : i < ks2.length := by rw [← HL.out]; exact hlt
             obtain ⟨b, off, v, hkp, ht1, hc1⟩ := KR.get _ 0 hkr1 i hlt
             obtain ⟨b', off', v', hkp', ht2, hc2⟩ := KR.get _ 0 hkr2 i hlt2
             obtain ⟨d1, rfl⟩ := ht1.ndD
             obtain ⟨d2, rfl⟩ := ht2.ndD
             subst hkp hkp'
             rw [Nat.zero_add] at hc1 hc2
             have hl1 := cells5_lt hc1
             have hl2 := cells5_lt hc2
             have hcl := ih ks[i] (List.getElem_mem hlt) ks2[i] d1 d2 wr.drew (TR.later (W := wr.drew) (fun k hk => hB.block k hk) _ ht1) (TR.later (W := wr.drew) (fun k hk => hB.block k hk) _ ht2)
             have hwl : w.heap.size < wr.heap.size := (Array.getElem?_eq_some_iff.1 m1).1
             have hXl : X1.heap.size < wr.heap.size := (Array.getElem?_eq_some_iff.1 m2).1
             unfold ND.v at hcl
             clear ht1 ht2
             go_wp2_with fail
             refine Reg.start (B := wr.heap.size) (by kernel_rfl) ?_
             refine Reg.take (fun _ _ _ _ _ h => h) 0 _ 42 (.pointer (some ⟨w.heap.size, 4, none⟩)) rfl (by kernel_rfl) (by kernel_rfl) (by kernel_rfl) rfl (by kernel_rfl) (by kernel_rfl) (fun wx hb => by kernel_rfl) ?_
             refine Reg.take (fun _ _ _ _ _ h => h) 1 _ 43 (.slice (some ⟨b, off, none⟩) ks.length kc) rfl (by kernel_rfl) (by kernel_rfl) (by kernel_rfl) rfl (by kernel_rfl) (by kernel_rfl) (fun wx hb => Reg.ldS rfl (by kernel_rfl) ((hb.cell (p := ⟨w.heap.size, 4, none⟩) hwl).trans c4) (Tryz.isAgg24 _)) ?_
             refine Reg.take (fun _ _ _ _ _ h => h) 2 _ 44 (.int .i64 (i : Int)) rfl (by kernel_rfl) (by kernel_rfl) (by kernel_rfl) rfl (by kernel_rfl) (by kernel_rfl) (fun wx hb => by kernel_rfl) ?_
             refine Reg.take (fun _ _ _ _ _ h => h) 3 _ 45 (.pointer (some ⟨b, off + i * 5, none⟩)) rfl (by kernel_rfl) (by kernel_rfl) (by kernel_rfl) rfl (by kernel_rfl) (by kernel_rfl) (fun wx hb => U.Reg.ix (q := .i64) (cap := kc) rfl (by kernel_rfl) (by kernel_rfl) hlt Tryz.underlying24 (elemSize24w wx)) ?_
             refine Reg.take (fun _ _ _ _ _ h => h) 4 _ 46 (.agg #[.int .i64 d1.k, .int .i64 d1.a, .slice d1.sp d1.sl d1.sc, .string d1.n, .slice d1.kp d1.kl d1.kc]) rfl (by kernel_rfl) (by kernel_rfl) (by kernel_rfl) rfl (by kernel_rfl) (by kernel_rfl) (fun wx hb => by
               obtain ⟨z0, z1, z2, z3, z4⟩ := cells5_atW hc1 (hB.drew.trans (Below.mono hb (Nat.le_of_lt hwl))) hl1
               exact ldK rfl (by kernel_rfl) z0 z1 z2 z3 z4) ?_
             refine Reg.take (fun _ _ _ _ _ h => h) 5 _ 47 (.pointer (some ⟨X1.heap.size, 4, none⟩)) rfl (by kernel_rfl) (by kernel_rfl) (by kernel_rfl) rfl (by kernel_rfl) (by kernel_rfl) (fun wx hb => by kernel_rfl) ?_
             refine Reg.take (fun _ _ _ _ _ h => h) 6 _ 48 (.slice (some ⟨b', off', none⟩) ks2.length kc2) rfl (by kernel_rfl) (by kernel_rfl) (by kernel_rfl) rfl (by kernel_rfl) (by kernel_rfl) (fun wx hb => Reg.ldS rfl (by kernel_rfl) ((hb.cell (p := ⟨X1.heap.size, 4, none⟩) hXl).trans q4) (Tryz.isAgg24 _)) ?_
             refine Reg.take (fun _ _ _ _ _ h => h) 7 _ 49 (.int .i64 (i : Int)) rfl (by kernel_rfl) (by kernel_rfl) (by kernel_rfl) rfl (by kernel_rfl) (by kernel_rfl) (fun wx hb => by kernel_rfl) ?_
             refine Reg.take (fun _ _ _ _ _ h => h) 8 _ 50 (.pointer (some ⟨b', off' + i * 5, none⟩)) rfl (by kernel_rfl) (by kernel_rfl) (by kernel_rfl) rfl (by kernel_rfl) (by kernel_rfl) (fun wx hb => U.Reg.ix (q := .i64) (cap := kc2) rfl (by kernel_rfl) (by kernel_rfl) hlt2 Tryz.underlying24 (elemSize24w wx)) ?_
             refine Reg.take (fun _ _ _ _ _ h => h) 9 _ 51 (.agg #[.int .i64 d2.k, .int .i64 d2.a, .slice d2.sp d2.sl d2.sc, .string d2.n, .slice d2.kp d2.kl d2.kc]) rfl (by kernel_rfl) (by kernel_rfl) (by kernel_rfl) rfl (by kernel_rfl) (by kernel_rfl) (fun wx hb => by
               obtain ⟨z0, z1, z2, z3, z4⟩ := cells5_atW hc2 (hB.drew.trans (Below.mono hb (Nat.le_of_lt hwl))) hl2
               exact ldK rfl (by kernel_rfl) z0 z1 z2 z3 z4) ?_
             refine Reg.call 10 _ 52 28 _ _ #[.agg #[.int .i64 d1.k, .int .i64 d1.a, .slice d1.sp d1.sl d1.sc, .string d1.n, .slice d1.kp d1.kl d1.kc], .agg #[.int .i64 d2.k, .int .i64 d2.a, .slice d2.sp d2.sl d2.sc, .string d2.n, .slice d2.kp d2.kl d2.kc]] rfl (by kernel_rfl) rfl (by kernel_rfl) (by kernel_rfl) rfl (by kernel_rfl) (by kernel_rfl) hcl ?_
             rintro r W4 ⟨⟨bb, rfl, hbb⟩, hb4⟩
             refine ⟨_, wr.heap.size, rfl, Nat.le_refl _, hb4, ?_⟩
             have hb4' : Below wr.heap.size wr W4 := (Below.refl _ wr).drew.trans hb4
             have M1 := hide ((hb4'.block w.heap.size hwl).trans m1)
             have M2 := hide ((hb4'.block X1.heap.size hXl).trans m2)
             have HB := hide (hB.trans (hb4'.mono (by omega)))
             cases bb with
             | true =>
               have HA2 : Hid (∀ j (h1 : j < ks.length) (h2 : j < ks2.length), j < i + 1 → AllL (E.pre ks[j] ks2[j])) := hide (fun j h1 h2 hj => by
                 by_cases hji : j = i
                 · subst hji; exact hbb.1 rfl
                 · exact HA.out j h1 h2 (by omega))
               refine Reg.only 11 _ 53 rfl (by kernel_rfl) rfl (by kernel_rfl) (by kernel_rfl) ⟨.bool false, W4, wr.heap.size, by kernel_rfl, Nat.le_refl _, Below.refl _ _, ?_⟩
               refine Reg.done (by kernel_rfl) ?_
               simp only [Reg.ov, Act.put, List.setIfInBounds_toArray, List.set_cons_succ, List.set_cons_zero]
               clear m1 m2 hcl hb4 hb4' hbb c0 c1 c2 c3 c4 q0 q1 q2 q3 q4 HA
               go_wp2
               go_roundw
               case rel => exact ⟨i + 1, by go_num, by omega, HA2.out, M1.out, M2.out, HB.out⟩
               case measure => simp [intOf]; omega
             | false =>
               have HF : Hid (¬ G) := hide (fun h => by have := hbb.2 (HG.out.1 h i hlt hlt2); cases this)
               refine Reg.only 11 _ 53 rfl (by kernel_rfl) rfl (by kernel_rfl) (by kernel_rfl) ⟨.bool true, W4, wr.heap.size, by kernel_rfl, Nat.le_refl _, Below.refl _ _, ?_⟩
               refine Reg.done (by kernel_rfl) ?_
               simp only [Reg.ov, Act.put, List.setIfInBounds_toArray, List.set_cons_succ, List.set_cons_zero]
               clear m1 m2 hcl hb4 hb4' hbb c0 c1 c2 c3 c4 q0 q1 q2 q3 q4 HA
               go_wp2
               go_ret
               exact ⟨U.told_no HF.out, HB.out⟩
           · obtain rfl : i = ks.length := by omega
             have HF : Hid G := hide (HG.out.2 (fun j h1 h2 => HA.out j h1 h2 h1))
             go_wp2
             go_ret
             exact ⟨U.told_yes HF.out, hB⟩
       · have el : ((ks.length : Int) != (ks2.length : Int)) = true := by simp; omega
         have el2 : (ks.length != ks2.length) = true := by simp; omega
         have HF : Hid (¬ G) := hide (HNO.out (fun h => hl h.2.2.2))
         clear hl HNO HEQ
         go_wp2
         go_ret
         exact ⟨U.told_no HF.out, bW3⟩
   · have en : (nm != nm2) = true := by simpa using hn
     have en2 : (nm == nm2) = false := by simpa using hn
     have en3 : decide (nm = nm2) = false := decide_eq_false hn
     have HF : Hid (¬ G) := hide (HNO.out (fun h => hn h.2.1))
     clear hn HNO HEQ hsm
     go_enter Tryz.func28, Tryz.ntmps28
     go_wp2
     go_ret
     exact ⟨U.told_no HF.out, bW⟩
 · have en : (k != k2) = true := by simpa using hk
   have HF : Hid (¬ G) := hide (HNO.out (fun h => hk h.1))
   clear hk HNO HEQ hsm
   go_enter Tryz.func28, Tryz.ntmps28
   go_wp2
   go_ret
   exact ⟨U.told_no HF.out, bW⟩
theorem inT_kid {k a : Int} {s : E.Rs} {nm : List UInt8} {ks : List T} (hF : InT (.mk k a s nm ks)) {t : T} (ht : t ∈ ks) : InT t := fun p hp => hF p (by rw [pre_self]; exact List.mem_cons_of_mem _ (List.mem_flatMap.2 ⟨t, ht, hp⟩))
theorem inT_self {t : T} (hF : InT t) : E.NodeB t := hF (t, t) (by rw [pre_self]; exact List.mem_cons_self)
theorem sameR_n : ∀ (n : Nat) (t : T), SizeOf.sizeOf t < n → InT t → ∀ (u : T) (d e : ND) (w : World), TR w (fun _ => True) t d.v → TR w (fun _ => True) u e.v → Calls Tryz.prog 28 #[d.v, e.v] w fun r w' => U.Told (AllL (E.pre t u)) r ∧ Below w.heap.size w w'
 | 0, _, h, _ => absurd h (Nat.not_lt_zero _)
 | n + 1, .mk k a s nm ks, h, hF => fun u => match u with
   | .mk k2 a2 s2 nm2 ks2 => fun d e w hd he => sameR_step k a s nm ks (inT_self hF) (fun t ht => sameR_n n t (by
     have := List.sizeOf_lt_of_mem ht
     simp at h
     omega) (inT_kid hF ht)) k2 a2 s2 nm2 ks2 d e w hd he
theorem sameR_any (t u : T) (hF : InT t) (d e : ND) (w : World) (hd : TR w (fun _ => True) t d.v) (he : TR w (fun _ => True) u e.v) : Calls Tryz.prog 28 #[d.v, e.v] w fun r w' => U.Told (AllL (E.pre t u)) r ∧ Below w.heap.size w w' :=
 sameR_n (SizeOf.sizeOf t + 1) t (Nat.lt_succ_self _) hF u d e w hd he
end Go.Proofs.YteaaijhppmkfeaaGreatDoor
namespace Go.Proofs.YteaaijhppmkfeaaGreatDoor
open Go.RowKit Go.Shelf
open E (T)
attribute [local go_sem] Oper.semAt_some
theorem Reg.adS {P : Program} {w : World} {ρ : Operand → Value} {o : Oper} {t t' : TypeId} {x y : Operand} {s u : ByteArray} (hop : o.op = .binOp .add t x y t') (hx : ρ x = .string s) (hy : ρ y = .string u) (hl : s.size + u.size ≤ 9223372036854775807) : (execOp ρ o).run P w = .ok (.value (.string (s ++ u))) w := by
 obtain ⟨dst, op, type, pos, after, guard⟩ := o
 simp only at hop
 subst hop
 have : (s.size : Int) + (u.size : Int) ≤ 9223372036854775807 := by omega
 simp [execOp, hx, hy, eqGuard, binOp, Op.stringOp, Sem.run_pure, this]
theorem bsz (l : List UInt8) : (⟨l.toArray⟩ : ByteArray).size = l.length := by show l.toArray.size = _; simp
namespace E
mutual
theorem text_len : ∀ (t : T), (∀ p ∈ pre t t, NodeOk p.1) → (text t).length + 10 ≤ 6000 * (pre t t).length
 | .mk k a s n ks, h => by
   have h0 := h (.mk k a s n ks, .mk k a s n ks) (by rw [pre]; exact List.mem_cons_self)
   have hK := fun sep b (hs : List.length sep ≤ 3) => textK_len ks sep b hs (fun p hp => h p (by rw [pre]; exact List.mem_cons_of_mem _ hp))
   have k1 := hK [32] false (by simp)
   have k2 := hK [32, 124, 32] false (by simp)
   have k3 := hK [] false (by simp)
   have hp : (pre (.mk k a s n ks) (.mk k a s n ks)).length = 1 + (preK ks ks).length := by rw [pre, List.length_cons]; simp [T.kids]; omega
   rw [hp, text]
   split
   · rename_i hk
     obtain ⟨_, h1 | ⟨h1, _⟩ | ⟨h1, _⟩⟩ := h0
     · have h5 := rangesT_len false s (fun r hr => by
         have := (U.S.good_iff r).1 (h1.2.2.2.good r hr)
         omega)
       have h6 : s.length ≤ 200 := h1.2.2.1
       simp only [setT, List.length_cons, List.length_append, List.length_nil]
       omega
     · simp only [T.kind] at h1; omega
     · simp only [T.kind] at h1; omega
   · split
     · obtain ⟨_, ⟨h1, _⟩ | ⟨_, _, h1⟩ | ⟨h1, _⟩⟩ := h0
       · simp only [T.kind] at h1; omega
       · have := (nameP_all h1).2.2
         simp only [T.name] at this
         simp only [List.length_cons]
         omega
       · simp only [T.kind] at h1; omega
     · split
       · simp; omega
       · split
         · simp only [List.length_cons, List.length_append, List.length_nil]; omega
         · split
           · simp only [List.length_cons, List.length_append, List.length_nil]; omega
           · split
             · simp only [List.length_cons, List.length_append, List.length_nil]; omega
             · split
               · simp only [List.length_cons, List.length_append, List.length_nil]; omega
               · split
                 · simp only [List.length_cons, List.length_append, List.length_nil]; omega
                 · simp; omega
theorem textK_len : ∀ (ts : List T) (sep : List UInt8) (b : Bool), sep.length ≤ 3 → (∀ p ∈ preK ts ts, NodeOk p.1) → (textK sep b ts).length ≤ 6000 * (preK ts ts).length
 | [], sep, b, _, _ => by simp [textK]
 | t :: ts, sep, b, hs, h => by
   rw [preK_cons] at h ⊢
   have h1 := text_len t (fun p hp => h p (List.mem_append_left _ hp))
   have h2 := textK_len ts sep true hs (fun p hp => h p (List.mem_append_right _ hp))
   rw [textK]
   simp only [List.length_append]
   split <;> simp <;> omega
end
end E
set_option maxRecDepth 100000 in
set_option maxHeartbeats 4000000 in
theorem text_step (k a : Int) (s : E.Rs) (nm : List UInt8) (ks : List T) (hok : E.NodeOk (.mk k a s nm ks)) (hlen : (E.text (.mk k a s nm ks)).length ≤ 8000000)
   (ih : ∀ t ∈ ks, ∀ (d : ND) (w : World), TR w (fun _ => True) t d.v → Calls Tryz.prog 56 #[d.v] w fun e w' => e = .returned (.string ⟨(E.text t).toArray⟩) ∧ Below w.heap.size w w')
   (d : ND) (w : World) (hd : TR w (fun _ => True) (.mk k a s nm ks) d.v) : Calls Tryz.prog 56 #[d.v] w fun e w' => e = .returned (.string ⟨(E.text (.mk k a s nm ks)).toArray⟩) ∧ Below w.heap.size w w' := by
 rw [TR] at hd
 obtain ⟨sp, sc, kp, kc, e1, hrd, hk1, hkr1⟩ := hd
 rw [e1]
 clear e1
 have a1 := al1 w (.cells #[.int .i64 k, .int .i64 a, .slice sp s.length sc, .string ⟨nm.toArray⟩, .slice kp ks.length kc] 26)
 have n1 := heap_alloc_new w (.cells #[.int .i64 k, .int .i64 a, .slice sp s.length sc, .string ⟨nm.toArray⟩, .slice kp ks.length kc] 26)
 obtain ⟨X1, hX1⟩ : ∃ X1, w.alloc (.cells #[.int .i64 k, .int .i64 a, .slice sp s.length sc, .string ⟨nm.toArray⟩, .slice kp ks.length kc] 26) = X1 := ⟨_, rfl⟩
 rw [hX1] at a1 n1
 have hrd1 := hrd.later a1
 obtain ⟨c0, c1, c2, c3, c4⟩ := cells_five n1
 obtain ⟨hkn, hcs⟩ := hok
 simp only [E.T.kids, E.T.kind, E.T.name, E.T.set] at hkn hcs
 rcases hcs with ⟨rfl, rfl, h200, hcan⟩ | ⟨rfl, rfl, hnm⟩ | ⟨h3, h8, rfl, rfl⟩
 · have hgood : ∀ r ∈ s, 0 ≤ r.1 ∧ r.1 ≤ 1114111 ∧ 0 ≤ r.2 ∧ r.2 ≤ 1114111 := fun r hr => by
     have := (U.S.good_iff r).1 (hcan.good r hr)
     omega
   have HT : Hid (∀ acc : ByteArray, acc = ⟨(91 :: E.rangesT false s).toArray⟩ → acc ++ ⟨#[93]⟩ = ⟨(E.text (.mk 1 a s [] ks)).toArray⟩) := hide (fun acc h => by rw [h, E.text]; apply ByteArray.ext; simp [E.setT])
   have HG := hide hgood
   have e1 : w.alloc (.cells #[.int .i64 1, .int .i64 a, .slice sp s.length sc, .string ⟨#[]⟩, .slice kp ks.length kc] 26) = X1 := hX1
   clear hcan hkn hlen ih hkr1 hgood hX1 hrd1
   have BW := a1
   have N1 := hide n1
   clear n1 a1
   go_enter Tryz.func56, Tryz.ntmps56
   go_wp2
   go_loopw [3, 4] (fun p u wr => ∃ (acc : ByteArray) (i : Nat), p = .string acc ∧ u = .int .i64 (i : Int) ∧ i ≤ s.length ∧ acc.size ≤ 1 + 24 * i ∧ Hid (acc = ⟨(91 :: E.rangesT false (s.take i)).toArray⟩) ∧ wr.heap[w.heap.size]? = some (.cells #[.int .i64 1, .int .i64 a, .slice sp s.length sc, .string ⟨#[]⟩, .slice kp ks.length kc] 26) ∧ Below w.heap.size w wr) (fun _ u _ => s.length - (intOf u).toNat)
   case atStart => exact ⟨_, 0, rfl, rfl, Nat.zero_le _, by simp [ByteArray.size], hide (by simp [E.rangesT]), N1.out, BW⟩
   case round =>
     obtain ⟨acc, i, rfl, rfl, hi, hsz, HA, m1, hB⟩ := hrel
     clear c0 c1 c2 c3 c4 N1 BW
     obtain ⟨c0, c1, c2, c3, c4⟩ := cells_five m1
     by_cases hlt : i < s.length
     · obtain ⟨b, off, rfl, hd1, hd2⟩ := (hrd.later hB) i hlt
       have HX0 : Hid (E.rangesT false (s.take (i + 1)) = E.rangesT false (s.take i) ++ ((if (false || !(s.take i).isEmpty) = true then [32] else []) ++ (E.chr s[i].1 ++ (if s[i].1 = s[i].2 then [] else 45 :: E.chr s[i].2)))) := hide (by rw [List.take_succ_eq_append_getElem hlt, E.rangesT_snoc])
       have hne : (s.take i).isEmpty = decide (i = 0) := by
         cases s with
         | nil => simp at hlt
         | cons x s => cases i <;> simp
       rw [hne] at HX0
       have hg := HG.out _ (List.getElem_mem hlt)
       generalize s[i] = r at *
       obtain ⟨lo, up⟩ := r
       simp only at hd1 hd2 hg HX0
       obtain ⟨g1, g2, g3, g4⟩ := hg
       have HC := hide (E.chr_len g1 g2)
       have HC2 := hide (E.chr_len g3 g4)
       have hcl := fun W => code_any lo g1 (by omega) W
       have hcu := fun W => code_any up g3 (by omega) W
       have q1 : E.chr lo = X.codeB lo.toNat := by rw [E.chr_eq]; congr 1; omega
       have q2 : E.chr up = X.codeB up.toNat := by rw [E.chr_eq]; congr 1; omega
       rw [q1, q2] at HX0
       rw [q1] at HC
       rw [q2] at HC2
       clear q1 q2 hne
       have y1 := HC.out
       have y2 := HC2.out
       have y3 : (⟨(X.codeB lo.toNat).toArray⟩ : ByteArray).size ≤ 11 := by rw [bsz]; exact y1
       have y4 : (⟨(X.codeB up.toNat).toArray⟩ : ByteArray).size ≤ 11 := by rw [bsz]; exact y2
       by_cases hi0 : i = 0
       · subst hi0
         simp only [Nat.zero_mul, Nat.add_zero] at hd1 hd2
         have HX : Hid (E.rangesT false (s.take (0 + 1)) = E.rangesT false (s.take 0) ++ (X.codeB lo.toNat ++ (if lo = up then [] else 45 :: X.codeB up.toNat))) := hide (by rw [HX0.out]; simp)
         clear HX0
         by_cases e3 : lo = up
         · subst e3
           have HE : Hid ((acc ++ ⟨(X.codeB lo.toNat).toArray⟩ : ByteArray) = ⟨(91 :: E.rangesT false (s.take (0 + 1))).toArray⟩) := hide (by
             rw [HX.out, HA.out, if_pos rfl]
             apply ByteArray.ext
             simp)
           have HZ : Hid ((acc ++ ⟨(X.codeB lo.toNat).toArray⟩ : ByteArray).size ≤ 1 + 24 * (0 + 1)) := hide (by
             have h1 := HC.out
             have h2 := HC2.out
             simp only [ByteArray.size_append, bsz]
             omega)
           clear HX HA
           go_wp2_with fail
           with_reducible refine (hcl _).mono ?_
           rintro e W3 ⟨rfl, rfl⟩
           go_wp2_with fail
           go_quiet (fail)
           go_wp2
           go_roundw
           case rel => exact ⟨_, 0 + 1, rfl, by go_num, by omega, HZ.out, HE.out, m1, _root_.Go.below_drewN hB nq⟩
           case measure => simp [intOf]; omega
         · have e4 : (up != lo) = true := by simp; omega
           have e5 : (up == lo) = false := by simp; omega
           have HE : Hid ((acc ++ ⟨(X.codeB lo.toNat).toArray⟩ ++ ⟨#[45]⟩ ++ ⟨(X.codeB up.toNat).toArray⟩ : ByteArray) = ⟨(91 :: E.rangesT false (s.take (0 + 1))).toArray⟩) := hide (by
             rw [HX.out, HA.out, if_neg e3]
             apply ByteArray.ext
             simp)
           have HZ : Hid ((acc ++ ⟨(X.codeB lo.toNat).toArray⟩ ++ ⟨#[45]⟩ ++ ⟨(X.codeB up.toNat).toArray⟩ : ByteArray).size ≤ 1 + 24 * (0 + 1)) := hide (by
             have h1 := HC.out
             have h2 := HC2.out
             simp only [ByteArray.size_append, bsz, show (⟨#[45]⟩ : ByteArray).size = 1 from rfl]
             omega)
           clear HX HA
           go_wp2_with fail
           with_reducible refine (hcl _).mono ?_
           rintro e W3 ⟨rfl, rfl⟩
           go_wp2_with fail
           go_quiet (fail)
           have hq : ∀ k, (W3.drewN nq).cell? k = W3.cell? k := fun k => by rfl
           have c2' : (W3.drewN nq).cell? ⟨w.heap.size, 2, none⟩ = _ := c2
           have hd2' : (W3.drewN nq).cell? ⟨b, off + 1, none⟩ = _ := hd2
           have m1' : (W3.drewN nq).heap[w.heap.size]? = _ := m1
           have hB' := _root_.Go.below_drewN hB nq
           clear hq
           generalize W3.drewN nq = W4 at *
           go_wp2_with fail
           with_reducible refine (hcu _).mono ?_
           rintro e W5 ⟨rfl, rfl⟩
           go_wp2
           go_roundw
           case rel => exact ⟨_, 0 + 1, rfl, by go_num, by omega, HZ.out, HE.out, m1', hB'⟩
           case measure => simp [intOf]; omega
       · have HX : Hid (E.rangesT false (s.take (i + 1)) = E.rangesT false (s.take i) ++ (32 :: (X.codeB lo.toNat ++ (if lo = up then [] else 45 :: X.codeB up.toNat)))) := hide (by rw [HX0.out, decide_eq_false hi0]; simp)
         have ei : decide ((0 : Int) < (i : Int)) = true := by simp; omega
         have ei2 : decide (0 < i) = true := by simp; omega
         clear HX0 hi0
         by_cases e3 : lo = up
         · subst e3
           have HE : Hid ((acc ++ ⟨#[32]⟩ ++ ⟨(X.codeB lo.toNat).toArray⟩ : ByteArray) = ⟨(91 :: E.rangesT false (s.take (i + 1))).toArray⟩) := hide (by
             rw [HX.out, HA.out, if_pos rfl]
             apply ByteArray.ext
             simp)
           have HZ : Hid ((acc ++ ⟨#[32]⟩ ++ ⟨(X.codeB lo.toNat).toArray⟩ : ByteArray).size ≤ 1 + 24 * (i + 1)) := hide (by
             have h1 := HC.out
             have h2 := HC2.out
             simp only [ByteArray.size_append, bsz, show (⟨#[32]⟩ : ByteArray).size = 1 from rfl]
             omega)
           clear HX HA
           go_wp2_with fail
           with_reducible refine (hcl _).mono ?_
           rintro e W3 ⟨rfl, rfl⟩
           go_wp2_with fail
           go_quiet (fail)
           go_wp2
           go_roundw
           case rel => exact ⟨_, i + 1, rfl, by go_num, by omega, HZ.out, HE.out, m1, _root_.Go.below_drewN hB nq⟩
           case measure => simp [intOf]; omega
         · have e4 : (up != lo) = true := by simp; omega
           have e5 : (up == lo) = false := by simp; omega
           have HE : Hid ((acc ++ ⟨#[32]⟩ ++ ⟨(X.codeB lo.toNat).toArray⟩ ++ ⟨#[45]⟩ ++ ⟨(X.codeB up.toNat).toArray⟩ : ByteArray) = ⟨(91 :: E.rangesT false (s.take (i + 1))).toArray⟩) := hide (by
             rw [HX.out, HA.out, if_neg e3]
             apply ByteArray.ext
             simp)
           have HZ : Hid ((acc ++ ⟨#[32]⟩ ++ ⟨(X.codeB lo.toNat).toArray⟩ ++ ⟨#[45]⟩ ++ ⟨(X.codeB up.toNat).toArray⟩ : ByteArray).size ≤ 1 + 24 * (i + 1)) := hide (by
             have h1 := HC.out
             have h2 := HC2.out
             simp only [ByteArray.size_append, bsz, show (⟨#[32]⟩ : ByteArray).size = 1 from rfl, show (⟨#[45]⟩ : ByteArray).size = 1 from rfl]
             omega)
           clear HX HA
           go_wp2_with fail
           with_reducible refine (hcl _).mono ?_
           rintro e W3 ⟨rfl, rfl⟩
           go_wp2_with fail
           go_quiet (fail)
           have hq : ∀ k, (W3.drewN nq).cell? k = W3.cell? k := fun k => by rfl
           have c2' : (W3.drewN nq).cell? ⟨w.heap.size, 2, none⟩ = _ := c2
           have hd2' : (W3.drewN nq).cell? ⟨b, off + i * 2 + 1, none⟩ = _ := hd2
           have m1' : (W3.drewN nq).heap[w.heap.size]? = _ := m1
           have hB' := _root_.Go.below_drewN hB nq
           clear hq
           generalize W3.drewN nq = W4 at *
           go_wp2_with fail
           with_reducible refine (hcu _).mono ?_
           rintro e W5 ⟨rfl, rfl⟩
           go_wp2
           go_roundw
           case rel => exact ⟨_, i + 1, rfl, by go_num, by omega, HZ.out, HE.out, m1', hB'⟩
           case measure => simp [intOf]; omega
     · obtain rfl : i = s.length := by omega
       have HE := hide (HT.out acc (by rw [HA.out, List.take_length]))
       clear HA HT
       go_wp2
       go_ret
       exact ⟨congrArg (fun b => Ending.returned (.string b)) HE.out, hB⟩
 · have hn20 := (E.nameP_all hnm).2.2
   have HE : Hid ((⟨#[36]⟩ ++ ⟨nm.toArray⟩ : ByteArray) = ⟨(E.text (.mk 2 a [] nm ks)).toArray⟩) := hide (by rw [E.text]; apply ByteArray.ext; simp)
   simp only [List.length_nil] at hX1
   clear hkn hlen ih hkr1 hrd hnm
   go_enter Tryz.func56, Tryz.ntmps56
   go_wp2
   go_ret
   exact ⟨congrArg (fun b => Ending.returned (.string b)) HE.out, a1⟩
 · have hk6 : k = 3 ∨ k = 4 ∨ k = 5 ∨ k = 6 ∨ k = 7 ∨ k = 8 := by omega
   rcases hk6 with rfl | rfl | rfl | rfl | rfl | rfl
   · have HE : Hid ((⟨#[40, 41]⟩ : ByteArray) = ⟨(E.text (.mk 3 a [] [] ks)).toArray⟩) := hide (by rw [E.text]; simp)
     simp only [List.length_nil] at hX1
     clear hkn hlen ih hkr1 hrd
     go_enter Tryz.func56, Tryz.ntmps56
     go_wp2
     go_ret
     exact ⟨congrArg (fun b => Ending.returned (.string b)) HE.out, a1⟩
   · have hks : ks.length = 2 := by have : E.kidsOf 4 = 2 := rfl; omega
     obtain ⟨x0, x1, rfl⟩ : ∃ x0 x1, ks = [x0, x1] := by
       match ks, hks with
       | [x0, x1], _ => exact ⟨x0, x1, rfl⟩
     simp only [List.length_nil, List.length_cons, Nat.zero_add, Nat.reduceAdd] at hX1 n1 c2 c4
     obtain ⟨b, off, v0, hkp, ht0, hc0⟩ := KR.get _ 0 hkr1 0 (by simp)
     obtain ⟨b', off', v1, hkp', ht1, hc1⟩ := KR.get _ 0 hkr1 1 (by simp)
     obtain ⟨d0, rfl⟩ := ht0.ndD
     obtain ⟨d1, rfl⟩ := ht1.ndD
     subst hkp
     cases hkp'
     simp only [List.getElem_cons_zero, List.getElem_cons_succ, Nat.zero_add, Nat.zero_mul, Nat.add_zero, Nat.one_mul] at ht0 ht1 hc0 hc1
     have hl0 := cells5_lt hc0
     have hT : Hid ((40 :: (E.text x0 ++ [32] ++ E.text x1 ++ [41])) = E.text (.mk 4 a [] [] [x0, x1])) := hide (by rw [E.text]; simp [E.textK])
     obtain ⟨t0, et0⟩ : ∃ t0, E.text x0 = t0 := ⟨_, rfl⟩
     obtain ⟨t1, et1⟩ : ∃ t1, E.text x1 = t1 := ⟨_, rfl⟩
     have hz : t0.length + t1.length ≤ 8000000 := by
       have h1 := congrArg List.length hT.out
       simp only [List.length_append, List.length_cons, et0, et1] at h1
       omega
     have hi0 := ih x0 (by simp) d0
     have hi1 := ih x1 (by simp) d1
     rw [et0] at hi0
     rw [et1] at hi1
     rw [et0, et1] at hT
     have hwl : w.heap.size < X1.heap.size := (Array.getElem?_eq_some_iff.1 n1).1
     unfold ND.v at hi0 hi1
     go_enter Tryz.func56, Tryz.ntmps56
     go_wp2_with fail
     refine Reg.start (B := X1.heap.size) (by kernel_rfl) ?_
     refine Reg.take (fun _ _ _ _ _ h => h) 0 _ 16 (.pointer (some ⟨w.heap.size, 4, none⟩)) rfl (by kernel_rfl) (by kernel_rfl) (by kernel_rfl) rfl (by kernel_rfl) (by kernel_rfl) (fun wx hb => by kernel_rfl) ?_
     refine Reg.take (fun _ _ _ _ _ h => h) 1 _ 17 (.slice (some ⟨b, off, none⟩) 2 kc) rfl (by kernel_rfl) (by kernel_rfl) (by kernel_rfl) rfl (by kernel_rfl) (by kernel_rfl) (fun wx hb => Reg.ldS rfl (by kernel_rfl) ((hb.cell (p := ⟨w.heap.size, 4, none⟩) hwl).trans c4) (Tryz.isAgg24 _)) ?_
     refine Reg.take (fun _ _ _ _ _ h => h) 2 _ 18 (.pointer (some ⟨b, off + 0 * 5, none⟩)) rfl (by kernel_rfl) (by kernel_rfl) (by kernel_rfl) rfl (by kernel_rfl) (by kernel_rfl) (fun wx hb => U.Reg.ix (q := .i64) (cap := kc) (k := 0) (len := 2) rfl (by kernel_rfl) (by kernel_rfl) (by decide) Tryz.underlying24 (elemSize24w wx)) ?_
     refine Reg.take (fun _ _ _ _ _ h => h) 3 _ 19 (.agg #[.int .i64 d0.k, .int .i64 d0.a, .slice d0.sp d0.sl d0.sc, .string d0.n, .slice d0.kp d0.kl d0.kc]) rfl (by kernel_rfl) (by kernel_rfl) (by kernel_rfl) rfl (by kernel_rfl) (by kernel_rfl) (fun wx hb => by
         obtain ⟨z0, z1, z2, z3, z4⟩ := cells5_atW hc0 (a1.drew.trans (Below.mono hb (Nat.le_of_lt hwl))) hl0
         exact ldK rfl (by kernel_rfl) z0 z1 z2 z3 z4) ?_
     refine Reg.take (fun _ _ _ _ _ h => h) 7 _ 23 (.pointer (some ⟨w.heap.size, 4, none⟩)) rfl (by kernel_rfl) (by kernel_rfl) (by kernel_rfl) rfl (by kernel_rfl) (by kernel_rfl) (fun wx hb => by kernel_rfl) ?_
     refine Reg.take (fun _ _ _ _ _ h => h) 8 _ 24 (.slice (some ⟨b, off, none⟩) 2 kc) rfl (by kernel_rfl) (by kernel_rfl) (by kernel_rfl) rfl (by kernel_rfl) (by kernel_rfl) (fun wx hb => Reg.ldS rfl (by kernel_rfl) ((hb.cell (p := ⟨w.heap.size, 4, none⟩) hwl).trans c4) (Tryz.isAgg24 _)) ?_
     refine Reg.take (fun _ _ _ _ _ h => h) 9 _ 25 (.pointer (some ⟨b, off + 1 * 5, none⟩)) rfl (by kernel_rfl) (by kernel_rfl) (by kernel_rfl) rfl (by kernel_rfl) (by kernel_rfl) (fun wx hb => U.Reg.ix (q := .i64) (cap := kc) (k := 1) (len := 2) rfl (by kernel_rfl) (by kernel_rfl) (by decide) Tryz.underlying24 (elemSize24w wx)) ?_
     refine Reg.take (fun _ _ _ _ _ h => h) 10 _ 26 (.agg #[.int .i64 d1.k, .int .i64 d1.a, .slice d1.sp d1.sl d1.sc, .string d1.n, .slice d1.kp d1.kl d1.kc]) rfl (by kernel_rfl) (by kernel_rfl) (by kernel_rfl) rfl (by kernel_rfl) (by kernel_rfl) (fun wx hb => by
         obtain ⟨z0, z1, z2, z3, z4⟩ := cells5_atW hc1 (a1.drew.trans (Below.mono hb (Nat.le_of_lt hwl))) hl0
         exact ldK rfl (by kernel_rfl) z0 z1 z2 z3 z4) ?_
     refine Reg.call 4 _ 20 56 _ _ #[.agg #[.int .i64 d0.k, .int .i64 d0.a, .slice d0.sp d0.sl d0.sc, .string d0.n, .slice d0.kp d0.kl d0.kc]] rfl (by kernel_rfl) rfl (by kernel_rfl) (by kernel_rfl) rfl (by kernel_rfl) (by kernel_rfl) (hi0 _ (TR.later (W := X1.drew) (fun k hk => a1.block k hk) _ ht0)) ?_
     rintro r W4 ⟨rfl, hb4⟩
     have hX4 : Below X1.heap.size X1 W4 := (Below.refl _ X1).drew.trans hb4
     refine ⟨_, X1.heap.size, rfl, Nat.le_refl _, hb4, ?_⟩
     refine Reg.take (fun _ _ _ _ _ h => h) 5 _ 21 (.string (⟨#[40]⟩ ++ ⟨t0.toArray⟩)) rfl (by kernel_rfl) (by kernel_rfl) (by kernel_rfl) rfl (by kernel_rfl) (by kernel_rfl) (fun wx hb => Reg.adS rfl (by kernel_rfl) (by kernel_rfl) (by (try simp only [ByteArray.size_append]); simp [ByteArray.size]; omega)) ?_
     refine Reg.take (fun _ _ _ _ _ h => h) 6 _ 22 (.string (⟨#[40]⟩ ++ ⟨t0.toArray⟩ ++ ⟨#[32]⟩)) rfl (by kernel_rfl) (by kernel_rfl) (by kernel_rfl) rfl (by kernel_rfl) (by kernel_rfl) (fun wx hb => Reg.adS rfl (by kernel_rfl) (by kernel_rfl) (by (try simp only [ByteArray.size_append]); simp [ByteArray.size]; omega)) ?_
     refine Reg.call 11 _ 27 56 _ _ #[.agg #[.int .i64 d1.k, .int .i64 d1.a, .slice d1.sp d1.sl d1.sc, .string d1.n, .slice d1.kp d1.kl d1.kc]] rfl (by kernel_rfl) rfl (by kernel_rfl) (by kernel_rfl) rfl (by kernel_rfl) (by kernel_rfl) (hi1 _ (TR.later (W := W4) (fun k hk => (a1.trans (hX4.mono (Nat.le_of_lt hwl))).block k hk) _ ht1)) ?_
     rintro r W5 ⟨rfl, hb5⟩
     have hX5 : Below X1.heap.size X1 W5 := hX4.trans (hb5.mono hX4.size)
     refine ⟨_, X1.heap.size, rfl, Nat.le_refl _, hb5.mono hX4.size, ?_⟩
     refine Reg.take (fun _ _ _ _ _ h => h) 12 _ 28 (.string (⟨#[40]⟩ ++ ⟨t0.toArray⟩ ++ ⟨#[32]⟩ ++ ⟨t1.toArray⟩)) rfl (by kernel_rfl) (by kernel_rfl) (by kernel_rfl) rfl (by kernel_rfl) (by kernel_rfl) (fun wx hb => Reg.adS rfl (by kernel_rfl) (by kernel_rfl) (by (try simp only [ByteArray.size_append]); simp [ByteArray.size]; omega)) ?_
     refine Reg.take (fun _ _ _ _ _ h => h) 13 _ 29 (.string (⟨#[40]⟩ ++ ⟨t0.toArray⟩ ++ ⟨#[32]⟩ ++ ⟨t1.toArray⟩ ++ ⟨#[41]⟩)) rfl (by kernel_rfl) (by kernel_rfl) (by kernel_rfl) rfl (by kernel_rfl) (by kernel_rfl) (fun wx hb => Reg.adS rfl (by kernel_rfl) (by kernel_rfl) (by (try simp only [ByteArray.size_append]); simp [ByteArray.size]; omega)) ?_
     refine Reg.only 14 _ 2 rfl (by kernel_rfl) rfl (by kernel_rfl) (by kernel_rfl) ⟨(.string (⟨#[40]⟩ ++ ⟨t0.toArray⟩ ++ ⟨#[32]⟩ ++ ⟨t1.toArray⟩ ++ ⟨#[41]⟩)), W5, X1.heap.size, by kernel_rfl, Nat.le_refl _, Below.refl _ _, ?_⟩
     refine Reg.done (by kernel_rfl) ?_
     simp only [Reg.ov, Act.put, List.setIfInBounds_toArray, List.set_cons_succ, List.set_cons_zero]
     have HE : Hid ((⟨#[40]⟩ ++ ⟨t0.toArray⟩ ++ ⟨#[32]⟩ ++ ⟨t1.toArray⟩ ++ ⟨#[41]⟩ : ByteArray) = ⟨(E.text (.mk 4 a [] [] [x0, x1])).toArray⟩) := hide (by rw [← hT.out]; apply ByteArray.ext; simp)
     have HB := hide (a1.trans (hX5.mono (Nat.le_of_lt hwl)))
     clear hi0 hi1 hT hb4 hb5 hX4 hX5 c0 c1 c2 c3 c4
     go_wp2
     go_ret
     exact ⟨congrArg (fun b => Ending.returned (.string b)) HE.out, HB.out⟩
   · have hks : ks.length = 2 := by have : E.kidsOf 5 = 2 := rfl; omega
     obtain ⟨x0, x1, rfl⟩ : ∃ x0 x1, ks = [x0, x1] := by
       match ks, hks with
       | [x0, x1], _ => exact ⟨x0, x1, rfl⟩
     simp only [List.length_nil, List.length_cons, Nat.zero_add, Nat.reduceAdd] at hX1 n1 c2 c4
     obtain ⟨b, off, v0, hkp, ht0, hc0⟩ := KR.get _ 0 hkr1 0 (by simp)
     obtain ⟨b', off', v1, hkp', ht1, hc1⟩ := KR.get _ 0 hkr1 1 (by simp)
     obtain ⟨d0, rfl⟩ := ht0.ndD
     obtain ⟨d1, rfl⟩ := ht1.ndD
     subst hkp
     cases hkp'
     simp only [List.getElem_cons_zero, List.getElem_cons_succ, Nat.zero_add, Nat.zero_mul, Nat.add_zero, Nat.one_mul] at ht0 ht1 hc0 hc1
     have hl0 := cells5_lt hc0
     have hT : Hid ((40 :: (E.text x0 ++ [32, 124, 32] ++ E.text x1 ++ [41])) = E.text (.mk 5 a [] [] [x0, x1])) := hide (by rw [E.text]; simp [E.textK])
     obtain ⟨t0, et0⟩ : ∃ t0, E.text x0 = t0 := ⟨_, rfl⟩
     obtain ⟨t1, et1⟩ : ∃ t1, E.text x1 = t1 := ⟨_, rfl⟩
     have hz : t0.length + t1.length ≤ 8000000 := by
       have h1 := congrArg List.length hT.out
       simp only [List.length_append, List.length_cons, et0, et1] at h1
       omega
     have hi0 := ih x0 (by simp) d0
     have hi1 := ih x1 (by simp) d1
     rw [et0] at hi0
     rw [et1] at hi1
     rw [et0, et1] at hT
     have hwl : w.heap.size < X1.heap.size := (Array.getElem?_eq_some_iff.1 n1).1
     unfold ND.v at hi0 hi1
     go_enter Tryz.func56, Tryz.ntmps56
     go_wp2_with fail
     refine Reg.start (B := X1.heap.size) (by kernel_rfl) ?_
     refine Reg.take (fun _ _ _ _ _ h => h) 0 _ 32 (.pointer (some ⟨w.heap.size, 4, none⟩)) rfl (by kernel_rfl) (by kernel_rfl) (by kernel_rfl) rfl (by kernel_rfl) (by kernel_rfl) (fun wx hb => by kernel_rfl) ?_
     refine Reg.take (fun _ _ _ _ _ h => h) 1 _ 33 (.slice (some ⟨b, off, none⟩) 2 kc) rfl (by kernel_rfl) (by kernel_rfl) (by kernel_rfl) rfl (by kernel_rfl) (by kernel_rfl) (fun wx hb => Reg.ldS rfl (by kernel_rfl) ((hb.cell (p := ⟨w.heap.size, 4, none⟩) hwl).trans c4) (Tryz.isAgg24 _)) ?_
     refine Reg.take (fun _ _ _ _ _ h => h) 2 _ 34 (.pointer (some ⟨b, off + 0 * 5, none⟩)) rfl (by kernel_rfl) (by kernel_rfl) (by kernel_rfl) rfl (by kernel_rfl) (by kernel_rfl) (fun wx hb => U.Reg.ix (q := .i64) (cap := kc) (k := 0) (len := 2) rfl (by kernel_rfl) (by kernel_rfl) (by decide) Tryz.underlying24 (elemSize24w wx)) ?_
     refine Reg.take (fun _ _ _ _ _ h => h) 3 _ 35 (.agg #[.int .i64 d0.k, .int .i64 d0.a, .slice d0.sp d0.sl d0.sc, .string d0.n, .slice d0.kp d0.kl d0.kc]) rfl (by kernel_rfl) (by kernel_rfl) (by kernel_rfl) rfl (by kernel_rfl) (by kernel_rfl) (fun wx hb => by
         obtain ⟨z0, z1, z2, z3, z4⟩ := cells5_atW hc0 (a1.drew.trans (Below.mono hb (Nat.le_of_lt hwl))) hl0
         exact ldK rfl (by kernel_rfl) z0 z1 z2 z3 z4) ?_
     refine Reg.take (fun _ _ _ _ _ h => h) 7 _ 39 (.pointer (some ⟨w.heap.size, 4, none⟩)) rfl (by kernel_rfl) (by kernel_rfl) (by kernel_rfl) rfl (by kernel_rfl) (by kernel_rfl) (fun wx hb => by kernel_rfl) ?_
     refine Reg.take (fun _ _ _ _ _ h => h) 8 _ 40 (.slice (some ⟨b, off, none⟩) 2 kc) rfl (by kernel_rfl) (by kernel_rfl) (by kernel_rfl) rfl (by kernel_rfl) (by kernel_rfl) (fun wx hb => Reg.ldS rfl (by kernel_rfl) ((hb.cell (p := ⟨w.heap.size, 4, none⟩) hwl).trans c4) (Tryz.isAgg24 _)) ?_
     refine Reg.take (fun _ _ _ _ _ h => h) 9 _ 41 (.pointer (some ⟨b, off + 1 * 5, none⟩)) rfl (by kernel_rfl) (by kernel_rfl) (by kernel_rfl) rfl (by kernel_rfl) (by kernel_rfl) (fun wx hb => U.Reg.ix (q := .i64) (cap := kc) (k := 1) (len := 2) rfl (by kernel_rfl) (by kernel_rfl) (by decide) Tryz.underlying24 (elemSize24w wx)) ?_
     refine Reg.take (fun _ _ _ _ _ h => h) 10 _ 42 (.agg #[.int .i64 d1.k, .int .i64 d1.a, .slice d1.sp d1.sl d1.sc, .string d1.n, .slice d1.kp d1.kl d1.kc]) rfl (by kernel_rfl) (by kernel_rfl) (by kernel_rfl) rfl (by kernel_rfl) (by kernel_rfl) (fun wx hb => by
         obtain ⟨z0, z1, z2, z3, z4⟩ := cells5_atW hc1 (a1.drew.trans (Below.mono hb (Nat.le_of_lt hwl))) hl0
         exact ldK rfl (by kernel_rfl) z0 z1 z2 z3 z4) ?_
     refine Reg.call 4 _ 36 56 _ _ #[.agg #[.int .i64 d0.k, .int .i64 d0.a, .slice d0.sp d0.sl d0.sc, .string d0.n, .slice d0.kp d0.kl d0.kc]] rfl (by kernel_rfl) rfl (by kernel_rfl) (by kernel_rfl) rfl (by kernel_rfl) (by kernel_rfl) (hi0 _ (TR.later (W := X1.drew) (fun k hk => a1.block k hk) _ ht0)) ?_
     rintro r W4 ⟨rfl, hb4⟩
     have hX4 : Below X1.heap.size X1 W4 := (Below.refl _ X1).drew.trans hb4
     refine ⟨_, X1.heap.size, rfl, Nat.le_refl _, hb4, ?_⟩
     refine Reg.take (fun _ _ _ _ _ h => h) 5 _ 37 (.string (⟨#[40]⟩ ++ ⟨t0.toArray⟩)) rfl (by kernel_rfl) (by kernel_rfl) (by kernel_rfl) rfl (by kernel_rfl) (by kernel_rfl) (fun wx hb => Reg.adS rfl (by kernel_rfl) (by kernel_rfl) (by (try simp only [ByteArray.size_append]); simp [ByteArray.size]; omega)) ?_
     refine Reg.take (fun _ _ _ _ _ h => h) 6 _ 38 (.string (⟨#[40]⟩ ++ ⟨t0.toArray⟩ ++ ⟨#[32, 124, 32]⟩)) rfl (by kernel_rfl) (by kernel_rfl) (by kernel_rfl) rfl (by kernel_rfl) (by kernel_rfl) (fun wx hb => Reg.adS rfl (by kernel_rfl) (by kernel_rfl) (by (try simp only [ByteArray.size_append]); simp [ByteArray.size]; omega)) ?_
     refine Reg.call 11 _ 43 56 _ _ #[.agg #[.int .i64 d1.k, .int .i64 d1.a, .slice d1.sp d1.sl d1.sc, .string d1.n, .slice d1.kp d1.kl d1.kc]] rfl (by kernel_rfl) rfl (by kernel_rfl) (by kernel_rfl) rfl (by kernel_rfl) (by kernel_rfl) (hi1 _ (TR.later (W := W4) (fun k hk => (a1.trans (hX4.mono (Nat.le_of_lt hwl))).block k hk) _ ht1)) ?_
     rintro r W5 ⟨rfl, hb5⟩
     have hX5 : Below X1.heap.size X1 W5 := hX4.trans (hb5.mono hX4.size)
     refine ⟨_, X1.heap.size, rfl, Nat.le_refl _, hb5.mono hX4.size, ?_⟩
     refine Reg.take (fun _ _ _ _ _ h => h) 12 _ 44 (.string (⟨#[40]⟩ ++ ⟨t0.toArray⟩ ++ ⟨#[32, 124, 32]⟩ ++ ⟨t1.toArray⟩)) rfl (by kernel_rfl) (by kernel_rfl) (by kernel_rfl) rfl (by kernel_rfl) (by kernel_rfl) (fun wx hb => Reg.adS rfl (by kernel_rfl) (by kernel_rfl) (by (try simp only [ByteArray.size_append]); simp [ByteArray.size]; omega)) ?_
     refine Reg.take (fun _ _ _ _ _ h => h) 13 _ 45 (.string (⟨#[40]⟩ ++ ⟨t0.toArray⟩ ++ ⟨#[32, 124, 32]⟩ ++ ⟨t1.toArray⟩ ++ ⟨#[41]⟩)) rfl (by kernel_rfl) (by kernel_rfl) (by kernel_rfl) rfl (by kernel_rfl) (by kernel_rfl) (fun wx hb => Reg.adS rfl (by kernel_rfl) (by kernel_rfl) (by (try simp only [ByteArray.size_append]); simp [ByteArray.size]; omega)) ?_
     refine Reg.only 14 _ 2 rfl (by kernel_rfl) rfl (by kernel_rfl) (by kernel_rfl) ⟨(.string (⟨#[40]⟩ ++ ⟨t0.toArray⟩ ++ ⟨#[32, 124, 32]⟩ ++ ⟨t1.toArray⟩ ++ ⟨#[41]⟩)), W5, X1.heap.size, by kernel_rfl, Nat.le_refl _, Below.refl _ _, ?_⟩
     refine Reg.done (by kernel_rfl) ?_
     simp only [Reg.ov, Act.put, List.setIfInBounds_toArray, List.set_cons_succ, List.set_cons_zero]
     have HE : Hid ((⟨#[40]⟩ ++ ⟨t0.toArray⟩ ++ ⟨#[32, 124, 32]⟩ ++ ⟨t1.toArray⟩ ++ ⟨#[41]⟩ : ByteArray) = ⟨(E.text (.mk 5 a [] [] [x0, x1])).toArray⟩) := hide (by rw [← hT.out]; apply ByteArray.ext; simp)
     have HB := hide (a1.trans (hX5.mono (Nat.le_of_lt hwl)))
     clear hi0 hi1 hT hb4 hb5 hX4 hX5 c0 c1 c2 c3 c4
     go_wp2
     go_ret
     exact ⟨congrArg (fun b => Ending.returned (.string b)) HE.out, HB.out⟩
   · have hks : ks.length = 1 := by have : E.kidsOf 6 = 1 := rfl; omega
     obtain ⟨x0, rfl⟩ : ∃ x0, ks = [x0] := by
       match ks, hks with
       | [x0], _ => exact ⟨x0, rfl⟩
     simp only [List.length_nil, List.length_cons, Nat.zero_add] at hX1 n1 c2 c4
     obtain ⟨b, off, v0, hkp, ht0, hc0⟩ := KR.get _ 0 hkr1 0 (by simp)
     obtain ⟨d0, rfl⟩ := ht0.ndD
     subst hkp
     simp only [List.getElem_cons_zero, Nat.zero_mul, Nat.add_zero] at ht0 hc0
     have hl0 := cells5_lt hc0
     have hT : Hid ((40 :: (E.text x0 ++ [41, 42])) = E.text (.mk 6 a [] [] [x0])) := hide (by rw [E.text]; simp [E.textK])
     have hi0 := ih x0 (by simp) d0 X1 (TR.later (fun k hk => a1.block k hk) _ ht0)
     obtain ⟨t0, et0⟩ : ∃ t0, E.text x0 = t0 := ⟨_, rfl⟩
     have hz : t0.length ≤ 8000000 := by
       have h1 := congrArg List.length hT.out
       simp only [List.length_append, List.length_cons, et0] at h1
       omega
     rw [et0] at hi0 hT
     have HE : Hid ((⟨#[40]⟩ ++ ⟨t0.toArray⟩ ++ ⟨#[41, 42]⟩ : ByteArray) = ⟨(E.text (.mk 6 a [] [] [x0])).toArray⟩) := hide (by rw [← hT.out]; apply ByteArray.ext; simp)
     obtain ⟨y0, y1, y2, y3, y4, ev, g0, g1, g2, g3, g4⟩ := hc0
     unfold ND.v at hi0 ev
     simp only [Value.agg.injEq, Array.mk.injEq, List.cons.injEq, and_true] at ev
     obtain ⟨rfl, rfl, rfl, rfl, rfl⟩ := ev
     have hcb : ∀ j, X1.cell? ⟨b, j, none⟩ = w.cell? ⟨b, j, none⟩ := fun j => World.cell?_of_block (w := w) (a := ⟨b, j, none⟩) (a1.block b hl0)
     rw [← hcb] at g0 g1 g2 g3 g4
     clear ht0 hcb hT et0
     go_enter Tryz.func56, Tryz.ntmps56
     go_wp2_with fail
     with_reducible refine hi0.mono ?_
     rintro e W4 ⟨rfl, hb4⟩
     have HB := hide (nx a1 hb4)
     clear hi0 hb4
     go_wp2
     go_ret
     exact ⟨congrArg (fun b => Ending.returned (.string b)) HE.out, HB.out⟩
   · have hks : ks.length = 1 := by have : E.kidsOf 7 = 1 := rfl; omega
     obtain ⟨x0, rfl⟩ : ∃ x0, ks = [x0] := by
       match ks, hks with
       | [x0], _ => exact ⟨x0, rfl⟩
     simp only [List.length_nil, List.length_cons, Nat.zero_add] at hX1 n1 c2 c4
     obtain ⟨b, off, v0, hkp, ht0, hc0⟩ := KR.get _ 0 hkr1 0 (by simp)
     obtain ⟨d0, rfl⟩ := ht0.ndD
     subst hkp
     simp only [List.getElem_cons_zero, Nat.zero_mul, Nat.add_zero] at ht0 hc0
     have hl0 := cells5_lt hc0
     have hT : Hid ((40 :: (E.text x0 ++ [41, 43])) = E.text (.mk 7 a [] [] [x0])) := hide (by rw [E.text]; simp [E.textK])
     have hi0 := ih x0 (by simp) d0 X1 (TR.later (fun k hk => a1.block k hk) _ ht0)
     obtain ⟨t0, et0⟩ : ∃ t0, E.text x0 = t0 := ⟨_, rfl⟩
     have hz : t0.length ≤ 8000000 := by
       have h1 := congrArg List.length hT.out
       simp only [List.length_append, List.length_cons, et0] at h1
       omega
     rw [et0] at hi0 hT
     have HE : Hid ((⟨#[40]⟩ ++ ⟨t0.toArray⟩ ++ ⟨#[41, 43]⟩ : ByteArray) = ⟨(E.text (.mk 7 a [] [] [x0])).toArray⟩) := hide (by rw [← hT.out]; apply ByteArray.ext; simp)
     obtain ⟨y0, y1, y2, y3, y4, ev, g0, g1, g2, g3, g4⟩ := hc0
     unfold ND.v at hi0 ev
     simp only [Value.agg.injEq, Array.mk.injEq, List.cons.injEq, and_true] at ev
     obtain ⟨rfl, rfl, rfl, rfl, rfl⟩ := ev
     have hcb : ∀ j, X1.cell? ⟨b, j, none⟩ = w.cell? ⟨b, j, none⟩ := fun j => World.cell?_of_block (w := w) (a := ⟨b, j, none⟩) (a1.block b hl0)
     rw [← hcb] at g0 g1 g2 g3 g4
     clear ht0 hcb hT et0
     go_enter Tryz.func56, Tryz.ntmps56
     go_wp2_with fail
     with_reducible refine hi0.mono ?_
     rintro e W4 ⟨rfl, hb4⟩
     have HB := hide (nx a1 hb4)
     clear hi0 hb4
     go_wp2
     go_ret
     exact ⟨congrArg (fun b => Ending.returned (.string b)) HE.out, HB.out⟩
   · have hks : ks.length = 1 := by have : E.kidsOf 8 = 1 := rfl; omega
     obtain ⟨x0, rfl⟩ : ∃ x0, ks = [x0] := by
       match ks, hks with
       | [x0], _ => exact ⟨x0, rfl⟩
     simp only [List.length_nil, List.length_cons, Nat.zero_add] at hX1 n1 c2 c4
     obtain ⟨b, off, v0, hkp, ht0, hc0⟩ := KR.get _ 0 hkr1 0 (by simp)
     obtain ⟨d0, rfl⟩ := ht0.ndD
     subst hkp
     simp only [List.getElem_cons_zero, Nat.zero_mul, Nat.add_zero] at ht0 hc0
     have hl0 := cells5_lt hc0
     have hT : Hid ((40 :: (E.text x0 ++ [41, 63])) = E.text (.mk 8 a [] [] [x0])) := hide (by rw [E.text]; simp [E.textK])
     have hi0 := ih x0 (by simp) d0 X1 (TR.later (fun k hk => a1.block k hk) _ ht0)
     obtain ⟨t0, et0⟩ : ∃ t0, E.text x0 = t0 := ⟨_, rfl⟩
     have hz : t0.length ≤ 8000000 := by
       have h1 := congrArg List.length hT.out
       simp only [List.length_append, List.length_cons, et0] at h1
       omega
     rw [et0] at hi0 hT
     have HE : Hid ((⟨#[40]⟩ ++ ⟨t0.toArray⟩ ++ ⟨#[41, 63]⟩ : ByteArray) = ⟨(E.text (.mk 8 a [] [] [x0])).toArray⟩) := hide (by rw [← hT.out]; apply ByteArray.ext; simp)
     obtain ⟨y0, y1, y2, y3, y4, ev, g0, g1, g2, g3, g4⟩ := hc0
     unfold ND.v at hi0 ev
     simp only [Value.agg.injEq, Array.mk.injEq, List.cons.injEq, and_true] at ev
     obtain ⟨rfl, rfl, rfl, rfl, rfl⟩ := ev
     have hcb : ∀ j, X1.cell? ⟨b, j, none⟩ = w.cell? ⟨b, j, none⟩ := fun j => World.cell?_of_block (w := w) (a := ⟨b, j, none⟩) (a1.block b hl0)
     rw [← hcb] at g0 g1 g2 g3 g4
     clear ht0 hcb hT et0
     go_enter Tryz.func56, Tryz.ntmps56
     go_wp2_with fail
     with_reducible refine hi0.mono ?_
     rintro e W4 ⟨rfl, hb4⟩
     have HB := hide (nx a1 hb4)
     clear hi0 hb4
     go_wp2
     go_ret
     exact ⟨congrArg (fun b => Ending.returned (.string b)) HE.out, HB.out⟩
theorem textK_kid (sep : List UInt8) : ∀ (ks : List T) (b : Bool) (t : T), t ∈ ks → (E.text t).length ≤ (E.textK sep b ks).length
 | [], _, _, h => by cases h
 | x :: ks, b, t, h => by
   rw [E.textK]
   simp only [List.length_append]
   rcases List.mem_cons.1 h with rfl | h
   · omega
   · have := textK_kid sep ks true t h
     omega
theorem text_kid (k a : Int) (s : E.Rs) (nm : List UInt8) (ks : List T) (hok : E.NodeOk (.mk k a s nm ks)) (t : T) (ht : t ∈ ks) (hl : (E.text (.mk k a s nm ks)).length ≤ 8000000) : (E.text t).length ≤ 8000000 := by
 have h1 := textK_kid [32] ks false t ht
 have h2 := textK_kid [32, 124, 32] ks false t ht
 have h3 := textK_kid [] ks false t ht
 obtain ⟨hkn, _⟩ := hok
 simp only [E.T.kids, E.T.kind] at hkn
 have hpos : 0 < ks.length := List.length_pos_of_mem ht
 have hk : k = 4 ∨ k = 5 ∨ k = 6 ∨ k = 7 ∨ k = 8 := by
   unfold E.kidsOf at hkn
   split at hkn
   · omega
   · split at hkn <;> omega
 rw [E.text] at hl
 rcases hk with rfl | rfl | rfl | rfl | rfl
 all_goals
   simp only [show ¬ ((4:Int) = 1) by decide, show ¬ ((4:Int) = 2) by decide, show ¬ ((4:Int) = 3) by decide, show ¬ ((5:Int) = 1) by decide, show ¬ ((5:Int) = 2) by decide, show ¬ ((5:Int) = 3) by decide, show ¬ ((5:Int) = 4) by decide, show ¬ ((6:Int) = 1) by decide, show ¬ ((6:Int) = 2) by decide, show ¬ ((6:Int) = 3) by decide, show ¬ ((6:Int) = 4) by decide, show ¬ ((6:Int) = 5) by decide, show ¬ ((7:Int) = 1) by decide, show ¬ ((7:Int) = 2) by decide, show ¬ ((7:Int) = 3) by decide, show ¬ ((7:Int) = 4) by decide, show ¬ ((7:Int) = 5) by decide, show ¬ ((7:Int) = 6) by decide, show ¬ ((8:Int) = 1) by decide, show ¬ ((8:Int) = 2) by decide, show ¬ ((8:Int) = 3) by decide, show ¬ ((8:Int) = 4) by decide, show ¬ ((8:Int) = 5) by decide, show ¬ ((8:Int) = 6) by decide, show ¬ ((8:Int) = 7) by decide, if_false, if_true, List.length_cons, List.length_append] at hl
   omega
theorem text_n : ∀ (n : Nat) (t : T), SizeOf.sizeOf t < n → E.Okk t → (E.text t).length ≤ 8000000 → ∀ (d : ND) (w : World), TR w (fun _ => True) t d.v → Calls Tryz.prog 56 #[d.v] w fun e w' => e = .returned (.string ⟨(E.text t).toArray⟩) ∧ Below w.heap.size w w'
 | 0, _, h, _, _ => absurd h (Nat.not_lt_zero _)
 | n + 1, .mk k a s nm ks, h, hF, hl => fun d w hd => text_step k a s nm ks ((E.okk_eq _).1 hF).1 hl (fun t ht => text_n n t (by
     have := List.sizeOf_lt_of_mem ht
     simp at h
     omega) (((E.okk_eq _).1 hF).2 t ht) (text_kid k a s nm ks ((E.okk_eq _).1 hF).1 t ht hl)) d w hd
set_option maxRecDepth 100000 in
set_option maxHeartbeats 1000000 in
theorem printR_any (t : T) (hF : InT t) (d : ND) (w : World) (hd : TR w (fun _ => True) t d.v) : Calls Tryz.prog 20 #[d.v] w fun e w' => e = .returned (.string ⟨(E.prn t).toArray⟩) ∧ Below w.heap.size w w' := by
 have a1 := al1 w (.cells #[.int .i64 d.k, .int .i64 d.a, .slice d.sp d.sl d.sc, .string d.n, .slice d.kp d.kl d.kc] 26)
 have n1 := heap_alloc_new w (.cells #[.int .i64 d.k, .int .i64 d.a, .slice d.sp d.sl d.sc, .string d.n, .slice d.kp d.kl d.kc] 26)
 have h1 := isR_any t hF d _ (TR.later (fun k hk => a1.block k hk) _ hd)
 obtain ⟨X1, hX1⟩ : ∃ X1, w.alloc (.cells #[.int .i64 d.k, .int .i64 d.a, .slice d.sp d.sl d.sc, .string d.n, .slice d.kp d.kl d.kc] 26) = X1 := ⟨_, rfl⟩
 rw [hX1] at a1 n1 h1
 obtain ⟨c0, c1, c2, c3, c4⟩ := cells_five n1
 unfold ND.v at h1 ⊢
 go_enter Tryz.func20, Tryz.ntmps20
 go_wp2_with fail
 with_reducible refine h1.mono ?_
 rintro e W2 ⟨⟨b, rfl, hb⟩, hb2⟩
 have HB := hide hb
 have B2 := nx a1 hb2
 have m1 := (hb2.block w.heap.size (Array.getElem?_eq_some_iff.1 n1).1).trans n1
 clear c0 c1 c2 c3 c4 n1 hX1 h1 hb hb2
 obtain ⟨c0, c1, c2, c3, c4⟩ := cells_five m1
 cases b with
 | false =>
   have HE : Hid ((⟨#[]⟩ : ByteArray) = ⟨(E.prn t).toArray⟩) := hide (by unfold E.prn; rw [if_neg (fun h => by have := HB.out.2 h; cases this)])
   clear HB
   go_wp2
   go_ret
   exact ⟨congrArg (fun b => Ending.returned (.string b)) HE.out, B2⟩
 | true =>
   have hI : E.IsP t := HB.out.1 rfl
   have HP : Hid (E.prn t = E.text t) := hide (by unfold E.prn; rw [if_pos hI])
   have hl : (E.text t).length ≤ 8000000 := by
     have h1 := E.text_len t hI.2
     have h2 := hI.1
     omega
   have h2 := text_n (SizeOf.sizeOf t + 1) t (Nat.lt_succ_self _) hI.2 hl d W2 (TR.later (fun k hk => B2.block k hk) _ hd)
   unfold ND.v at h2
   clear HB hI hl
   go_wp2_with fail
   with_reducible refine h2.mono ?_
   rintro e W3 ⟨rfl, hb3⟩
   have B3 := nx B2 hb3
   clear h2 hb3
   go_wp2
   go_ret
   exact ⟨by rw [HP.out]; rfl, B3⟩
end Go.Proofs.YteaaijhppmkfeaaGreatDoor
