/- The reference: Same, Has, Norm, Count. -/
import Derived.Test.YteaaijhppmkfeaaGreatDoorRJG
import Derived.Test.YteaaijhppmkfeaaGreatDoorRUIs
namespace Go.Proofs.YteaaijhppmkfeaaGreatDoor.U
open Go.RowKit Go.Shelf
set_option maxRecDepth 100000 in
set_option maxHeartbeats 4000000 in
theorem refSame_any (ao bo : Option Addr) (ca cb : Nat) (xs ys : List S.R) (hl : xs.length ≤ 9223372036854775807) (w : World) (h : RdR w ao xs) (h2 : RdR w bo ys) :
   Calls Tryz.prog 50 #[.slice ao xs.length ca, .slice bo ys.length cb] w fun e w' => Told (xs = ys) e ∧ Below w.heap.size w w' := by
 by_cases hne : xs.length = ys.length
 · have hq : ((xs.length : Int) != (ys.length : Int)) = false := by simp [hne]
   have HNE := hide hne
   clear hne
   go_enter Tryz.func50, Tryz.ntmps50
   go_wp2
   go_loopw [5] (fun p wr => ∃ k : Nat, p = .int .i64 (k : Int) ∧ k ≤ xs.length ∧ Hid (xs.take k = ys.take k) ∧ Below w.heap.size w wr) (fun p _ => xs.length - (intOf p).toNat)
   case atStart => exact ⟨0, rfl, Nat.zero_le _, rfl, Below.refl _ _⟩
   case round =>
     obtain ⟨k, rfl, hk, HE, hB⟩ := hrel
     by_cases hlt : k < xs.length
     · have hlt2 : k < ys.length := by rw [← HNE.out]; exact hlt
       obtain ⟨b, off, rfl, hd1, hd2⟩ := (h.later hB) k hlt
       obtain ⟨b', off', rfl, hf1, hf2⟩ := (h2.later hB) k hlt2
       have HX : Hid (xs.take (k + 1) = xs.take k ++ [xs[k]]) := List.take_succ_eq_append_getElem hlt
       have HY : Hid (ys.take (k + 1) = ys.take k ++ [ys[k]]) := List.take_succ_eq_append_getElem hlt2
       have HXe : Hid (xs = ys → xs[k] = ys[k]) := fun e => by simp only [e]
       generalize xs[k] = x at *
       generalize ys[k] = y at *
       obtain ⟨x1, x2⟩ := x
       obtain ⟨y1, y2⟩ := y
       simp only at hd1 hd2 hf1 hf2
       clear h h2
       by_cases e1 : x1 = y1
       · subst e1
         by_cases e2 : x2 = y2
         · subst e2
           go_wp2_with fail
           go_quiet (fail)
           go_wp2
           go_roundw
           case rel => exact ⟨k + 1, by go_num, by omega, by show _ = _; rw [HX.out, HY.out, HE.out], below_drewN hB nq⟩
           case measure => simp [intOf]; omega
         · have HN : Hid (¬ xs = ys) := fun e => e2 (congrArg Prod.snd (HXe.out e))
           have e3 : (x2 == y2) = false := by simpa using e2
           go_wp2_with fail
           go_quiet (fail)
           go_wp2
           go_ret
           exact ⟨told_no HN.out, below_drewN hB nq⟩
       · have HN : Hid (¬ xs = ys) := fun e => e1 (congrArg Prod.fst (HXe.out e))
         have e3 : (x1 == y1) = false := by simpa using e1
         go_wp2_with fail
         go_quiet (fail)
         go_wp2
         go_ret
         exact ⟨told_no HN.out, below_drewN hB nq⟩
     · obtain rfl : k = xs.length := by omega
       have HE2 : Hid (xs = ys) := by
         have := HE.out
         rw [List.take_length] at this
         show xs = ys
         rw [this, HNE.out, List.take_length]
       clear HE
       go_wp2
       go_ret
       exact ⟨told_yes HE2.out, hB⟩
 · have hq : ((xs.length : Int) != (ys.length : Int)) = true := by simp; omega
   have HN : Hid (¬ xs = ys) := fun e => hne (by rw [e])
   clear hne
   go_enter Tryz.func50, Tryz.ntmps50
   go_wp2
   go_ret
   exact ⟨told_no HN.out, Below.refl _ _⟩
end Go.Proofs.YteaaijhppmkfeaaGreatDoor.U
