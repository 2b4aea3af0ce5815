/- Joined: Rh8. -/
import Derived.Test.YtemanednddhfaaaGreatDoorMMtm
import Derived.Test.YtemanednddhfaaaGreatDoorMFo7
namespace Go.Proofs.YtemanednddhfaaaGreatDoor.U
open Go.RowKit Go.Shelf
attribute [local go_sem] Oper.semAt_some
def Mis8 (l : List S.R) (r : Int) : Prop := ∀ s ∈ l, S.good s = true → ¬ (s.1 ≤ r ∧ r ≤ s.2)
theorem mis8_snoc {l : List S.R} {r x1 x2 : Int} (h : Mis8 l r) (hx : S.good (x1, x2) = true → ¬ (x1 ≤ r ∧ r ≤ x2)) : Mis8 (l ++ [(x1, x2)]) r := by
 intro s hs
 rcases List.mem_append.1 hs with h' | h'
 · exact h s h'
 · obtain rfl : s = (x1, x2) := by simpa using h'
   exact hx
theorem mis8_hB {xs : List S.R} {r : Int} (h : Mis8 xs r) : S.hB xs r = false := by
 cases hh : S.hB xs r with
 | false => rfl
 | true =>
   obtain ⟨s, hs, h1⟩ := (S.hB_iff xs r).1 hh
   obtain ⟨hm, hg⟩ := List.mem_filter.1 hs
   exact absurd h1 (h s hm hg)
theorem hit8_hB {xs : List S.R} {r : Int} {s : S.R} (hs : s ∈ xs) (hg : S.good s = true) (h1 : s.1 ≤ r) (h2 : r ≤ s.2) : S.hB xs r = true := (S.hB_iff xs r).2 ⟨s, List.mem_filter.2 ⟨hs, hg⟩, h1, h2⟩
set_option maxRecDepth 100000 in
set_option maxHeartbeats 4000000 in
theorem refHas8 (ao : Option Addr) (ca : Nat) (xs : List S.R) (r : Int) (hl : xs.length ≤ 1000000) (w : World) (h : RdR w ao xs) :
   Calls Tryz.prog 58 #[.slice ao xs.length ca, .int .i32 r] w fun e W' => e = .returned (.bool (S.hB xs r)) ∧ Below w.heap.size w W' := by
 go_enter Tryz.func58, Tryz.ntmps58
 go_wp2
 go_loopw [5] (fun p wr => ∃ k : Nat, p = .int .i64 (k : Int) ∧ k ≤ xs.length ∧ Hid (Mis8 (xs.take k) r) ∧ Below w.heap.size w wr) (fun p _ => xs.length - (intOf p).toNat)
 case atStart => exact ⟨0, rfl, Nat.zero_le _, (fun s hs => by cases hs), Below.refl _ _⟩
 case round =>
   obtain ⟨k, rfl, hk, HM, hB⟩ := hrel
   by_cases hlt : k < xs.length
   · obtain ⟨b, off, rfl, hd1, hd2⟩ := (h.later hB) k hlt
     have HX : Hid (xs.take (k + 1) = xs.take k ++ [xs[k]]) := List.take_succ_eq_append_getElem hlt
     have hmem := hide (List.getElem_mem hlt)
     generalize xs[k] = x at *
     obtain ⟨x1, x2⟩ := x
     simp only at hd1 hd2
     have hgood := refGood_any x1 x2
     obtain ⟨gx, hgx⟩ : ∃ gx, S.good (x1, x2) = gx := ⟨_, rfl⟩
     rw [hgx] at hgood
     have HGX := hide hgx
     clear hgx h
     cases gx with
     | false =>
       go_wp2_with fail
       refine (hgood wr).mono ?_
       rintro e w2 ⟨rfl, hb2⟩
       clear hgood
       go_wp2
       go_roundw
       case rel => exact ⟨k + 1, by go_num, by omega, by show Mis8 _ _; rw [HX.out]; exact mis8_snoc HM.out (fun hg => by rw [HGX.out] at hg; cases hg), nx hB hb2⟩
       case measure => simp [intOf]; omega
     | true =>
       go_wp2_with fail
       refine (hgood wr).mono ?_
       rintro e w2 ⟨rfl, hb2⟩
       clear hgood
       replace hd1 := cell_later hb2 hd1
       replace hd2 := cell_later hb2 hd2
       replace hB := nx hB hb2
       by_cases h1 : x1 ≤ r
       · by_cases h2 : r ≤ x2
         · go_wp2
           go_ret
           exact ⟨by rw [hit8_hB hmem.out HGX.out h1 h2]; rfl, hB⟩
         · have h2' : x2 < r := by omega
           go_wp2
           go_roundw
           case rel => exact ⟨k + 1, by go_num, by omega, by show Mis8 _ _; rw [HX.out]; exact mis8_snoc HM.out (fun _ => by omega), hB⟩
           case measure => simp [intOf]; omega
       · have h1' : r < x1 := by omega
         go_wp2
         go_roundw
         case rel => exact ⟨k + 1, by go_num, by omega, by show Mis8 _ _; rw [HX.out]; exact mis8_snoc HM.out (fun _ => by omega), hB⟩
         case measure => simp [intOf]; omega
   · obtain rfl : k = xs.length := by omega
     have HE : Hid (S.hB xs r = false) := by
       have := HM.out
       rw [List.take_length] at this
       exact mis8_hB this
     clear HM
     go_wp2
     go_ret
     exact ⟨by rw [HE.out]; rfl, hB⟩
end Go.Proofs.YtemanednddhfaaaGreatDoor.U
