/- The reference: Same, Has, Norm, Count. -/
import Derived.Test.YtamhjnemmdcniaaGreatDoorVJG
import Derived.Test.YtamhjnemmdcniaaGreatDoorVUIs
namespace Go.Proofs.YtamhjnemmdcniaaGreatDoor.U
open Go.RowKit Go.Shelf
set_option maxRecDepth 100000 in
set_option maxHeartbeats 4000000 in
theorem refSame_any (ao bo : Option Addr) (ca cb : Nat) (xs ys : List S.R) (hl : xs.length ≤ 1000000) (w : World) (h : RdR w ao xs) (h2 : RdR w bo ys) :
   Calls Tryz.prog 33 #[.slice ao xs.length ca, .slice bo ys.length cb] w fun e w' => Told (xs = ys) e ∧ Below w.heap.size w w' := by
 by_cases hne : xs.length = ys.length
 · have hq : ((xs.length : Int) != (ys.length : Int)) = false := by simp [hne]
   have HNE := hide hne
   clear hne
   go_enter Tryz.func33, Tryz.ntmps33
   go_wp2
   go_loopw [5] (fun p wr => ∃ k : Nat, p = .int .i64 (k : Int) ∧ k ≤ xs.length ∧ Hid (xs.take k = ys.take k) ∧ Below w.heap.size w wr) (fun p _ => xs.length - (intOf p).toNat)
   case atStart => exact ⟨0, rfl, Nat.zero_le _, rfl, Below.refl _ _⟩
   case round =>
     obtain ⟨k, rfl, hk, HE, hB⟩ := hrel
     by_cases hlt : k < xs.length
     · have hlt2 : k < ys.length := by rw [← HNE.out]; exact hlt
       obtain ⟨b, off, rfl, hd1, hd2⟩ := (h.later hB) k hlt
       obtain ⟨b', off', rfl, hf1, hf2⟩ := (h2.later hB) k hlt2
       have HX : Hid (xs.take (k + 1) = xs.take k ++ [xs[k]]) := List.take_succ_eq_append_getElem hlt
       have HY : Hid (ys.take (k + 1) = ys.take k ++ [ys[k]]) := List.take_succ_eq_append_getElem hlt2
       have HXe : Hid (xs = ys → xs[k] = ys[k]) := fun e => by simp only [e]
       generalize xs[k] = x at *
       generalize ys[k] = y at *
       obtain ⟨x1, x2⟩ := x
       obtain ⟨y1, y2⟩ := y
       simp only at hd1 hd2 hf1 hf2
       clear h h2
       by_cases e1 : x1 = y1
       · subst e1
         by_cases e2 : x2 = y2
         · subst e2
           go_wp2_with fail
           go_quiet (fail)
           go_wp2
           go_roundw
           case rel => exact ⟨k + 1, by go_num, by omega, by show _ = _; rw [HX.out, HY.out, HE.out], below_drewN hB nq⟩
           case measure => simp [intOf]; omega
         · have HN : Hid (¬ xs = ys) := fun e => e2 (congrArg Prod.snd (HXe.out e))
           have e3 : (x2 == y2) = false := by simpa using e2
           go_wp2_with fail
           go_quiet (fail)
           go_wp2
           go_ret
           exact ⟨told_no HN.out, below_drewN hB nq⟩
       · have HN : Hid (¬ xs = ys) := fun e => e1 (congrArg Prod.fst (HXe.out e))
         have e3 : (x1 == y1) = false := by simpa using e1
         go_wp2_with fail
         go_quiet (fail)
         go_wp2
         go_ret
         exact ⟨told_no HN.out, below_drewN hB nq⟩
     · obtain rfl : k = xs.length := by omega
       have HE2 : Hid (xs = ys) := by
         have := HE.out
         rw [List.take_length] at this
         show xs = ys
         rw [this, HNE.out, List.take_length]
       clear HE
       go_wp2
       go_ret
       exact ⟨told_yes HE2.out, hB⟩
 · have hq : ((xs.length : Int) != (ys.length : Int)) = true := by simp; omega
   have HN : Hid (¬ xs = ys) := fun e => hne (by rw [e])
   clear hne
   go_enter Tryz.func33, Tryz.ntmps33
   go_wp2
   go_ret
   exact ⟨told_no HN.out, Below.refl _ _⟩
theorem norm_all {xs : List S.R} (h : xs.all S.good = true) (hn : (S.set xs).length ≤ 200) : normL xs = S.set xs ∧ normE xs = 0 := by
 unfold normL normE
 rw [if_pos ⟨h, hn⟩, if_pos ⟨h, hn⟩]
 exact ⟨rfl, rfl⟩
theorem norm_not {xs : List S.R} (h : ¬ (xs.all S.good = true ∧ (S.set xs).length ≤ 200)) : normL xs = [] ∧ normE xs = 30 := by
 unfold normL normE
 rw [if_neg h, if_neg h]
 exact ⟨rfl, rfl⟩
set_option maxRecDepth 100000 in
set_option maxHeartbeats 4000000 in
theorem refNorm_any (ao : Option Addr) (ca : Nat) (xs : List S.R) (hl : xs.length ≤ 400000) (w : World) (h : RdR w ao xs) :
   Calls Tryz.prog 183 #[.slice ao xs.length ca] w fun e W' => ∃ a c, e = .returned (.tuple #[.slice a (normL xs).length c, .bool (decide (normE xs = 0))]) ∧ RdR W' a (normL xs) ∧ Below w.heap.size w W' := by
 go_enter Tryz.func183, Tryz.ntmps183
 go_wp2
 go_loopw [4] (fun p wr => ∃ k : Nat, p = .int .i64 (k : Int) ∧ k ≤ xs.length ∧ Hid (∀ s ∈ xs.take k, S.good s = true) ∧ Below w.heap.size w wr) (fun p _ => xs.length - (intOf p).toNat)
 case atStart => exact ⟨0, rfl, Nat.zero_le _, (fun s hs => by cases hs), Below.refl _ _⟩
 case round =>
   obtain ⟨k, rfl, hk, HM, hB⟩ := hrel
   by_cases hlt : k < xs.length
   · obtain ⟨b, off, rfl, hd1, hd2⟩ := (h.later hB) k hlt
     have HX : Hid (xs.take (k + 1) = xs.take k ++ [xs[k]]) := List.take_succ_eq_append_getElem hlt
     have hmem := hide (List.getElem_mem hlt)
     generalize xs[k] = x at *
     obtain ⟨x1, x2⟩ := x
     simp only at hd1 hd2
     have hgood := refGood_any x1 x2
     obtain ⟨gx, hgx⟩ : ∃ gx, S.good (x1, x2) = gx := ⟨_, rfl⟩
     rw [hgx] at hgood
     have HGX := hide hgx
     clear hgx h
     cases gx with
     | false =>
       have HN := hide (norm_not (xs := xs) (fun hh => by
         have := List.all_eq_true.1 hh.1 _ hmem.out
         rw [HGX.out] at this
         cases this))
       go_wp2_with fail
       refine (hgood wr).mono ?_
       rintro e w2 ⟨rfl, hb2⟩
       clear hgood
       go_wp2
       go_ret2
       rw [HN.out.1, HN.out.2]
       exact ⟨none, 0, rfl, rdr_nil _ _, nx hB hb2⟩
     | true =>
       go_wp2_with fail
       refine (hgood wr).mono ?_
       rintro e w2 ⟨rfl, hb2⟩
       clear hgood
       go_wp2
       go_roundw
       case rel =>
         refine ⟨k + 1, by go_num, by omega, ?_, nx hB hb2⟩
         intro s hs
         rw [HX.out] at hs
         rcases List.mem_append.1 hs with h' | h'
         · exact HM.out s h'
         · obtain rfl : s = (x1, x2) := by simpa using h'
           exact HGX.out
       case measure => simp [intOf]; omega
   · obtain rfl : k = xs.length := by omega
     have HA : Hid (xs.all S.good = true) := by
       have := HM.out
       rw [List.take_length] at this
       exact List.all_eq_true.2 this
     clear HM
     have hof := refOf_any ao ca xs hl wr (h.later hB)
     have HN1 := hide (@norm_all xs HA.out)
     have HN2 := hide (@norm_not xs)
     have hsl := S.set_length xs
     generalize S.set xs = zs at *
     clear h
     go_wp2_with fail
     refine hof.mono ?_
     clear hof
     rintro e w2 ⟨a2, c2, rfl, hr2, _, hb2⟩
     by_cases hbig : zs.length ≤ 200
     · have HN := hide (HN1.out hbig)
       clear HN1 HN2
       go_wp2
       go_ret2
       rw [HN.out.1, HN.out.2]
       exact ⟨_, _, rfl, hr2, nx hB hb2⟩
     · have HN := hide (HN2.out fun hh => hbig hh.2)
       have hbig' : 200 < zs.length := by omega
       clear HN1 HN2
       go_wp2
       go_ret2
       rw [HN.out.1, HN.out.2]
       exact ⟨none, 0, rfl, rdr_nil _ _, nx hB hb2⟩
end Go.Proofs.YtamhjnemmdcniaaGreatDoor.U
