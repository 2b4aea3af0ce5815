/- The reference: Not, Union, Inter, Minus. -/
import Derived.Test.YtamhjnemmdcniaaGreatDoorVJG
namespace Go.Proofs.YtamhjnemmdcniaaGreatDoor.U
open Go.RowKit Go.Shelf
def gapsX (f : Int) (l : List S.R) : List S.R := if f ≤ 1114111 then S.gaps f l else []
theorem gapsX_nil {f : Int} (h : f ≤ 1114111) : gapsX f [] = [(f, 1114111)] := by simp [gapsX, h, S.gaps]
theorem gapsX_over {f : Int} (h : ¬ f ≤ 1114111) (l : List S.R) : gapsX f l = [] := by simp [gapsX, h]
theorem gapsX_cons {f s1 s2 : Int} {l : List S.R} (h : f ≤ 1114111) (h2 : s2 ≤ 1114111) : gapsX f ((s1, s2) :: l) = (if f < s1 then [(f, s1 - 1)] else []) ++ gapsX (s2 + 1) l := by
 unfold gapsX
 rw [if_pos h]
 simp only [S.gaps]
 by_cases e : s2 = 1114111
 · rw [if_pos e, if_neg (show ¬ s2 + 1 ≤ 1114111 by omega)]
 · rw [if_neg e, if_pos (show s2 + 1 ≤ 1114111 by omega)]
set_option maxRecDepth 100000 in
set_option maxHeartbeats 4000000 in
theorem refNot_any (ao : Option Addr) (ca : Nat) (xs : List S.R) (hl : xs.length ≤ 400000) (w : World) (h : RdR w ao xs) :
   Calls Tryz.prog 184 #[.slice ao xs.length ca] w (Res w (S.not xs)) := by
 have hset := refOf_any ao ca xs hl w h
 have hs1 := S.set_length xs
 have hC := S.set_canon xs
 have HN : Hid (S.not xs = gapsX 0 (S.set xs)) := hide (by unfold gapsX; rw [if_pos (by omega)]; rfl)
 generalize S.set xs = zs at *
 generalize S.not xs = nz at *
 have hlow : ∀ k (hk : k < zs.length), ∀ f : Int, (∀ r ∈ zs.drop k, f ≤ r.1) → f ≤ zs[k].1 := fun k hk f hf => hf _ (by rw [List.drop_eq_getElem_cons hk]; exact List.Mem.head _)
 go_enter Tryz.func184, Tryz.ntmps184
 go_wp2_with fail
 refine hset.mono ?_
 clear hset
 rintro e w1 ⟨a1, c1, rfl, hr1, _, hb1⟩
 go_wp2
 go_loopw [4, 5, 6] (fun v q p wr => ∃ (k : Nat) (f : Int) (out : List S.R), p = .int .i64 (k : Int) ∧ q = .int .i32 f ∧ k ≤ zs.length ∧ 0 ≤ f ∧ f ≤ 1114112 ∧ (∀ r ∈ zs.drop k, f ≤ r.1) ∧ OwnR wr w1.heap.size 51 v out ∧ Hid (nz = out ++ gapsX f (zs.drop k)) ∧ out.length ≤ k ∧ Below w1.heap.size w1 wr) (fun _ _ p _ => zs.length - (intOf p).toNat)
 case atStart => exact ⟨0, 0, [], rfl, rfl, Nat.zero_le _, Int.le_refl _, by omega, (fun r hr => ((S.good_iff r).1 (hC.good r (List.mem_of_mem_drop hr))).1), ownR_nil _ _ _, HN.out, Nat.le_refl _, Below.refl _ _⟩
 case round =>
   obtain ⟨k, f, out, rfl, rfl, hk, hf0, hf1, hfl, ho, HE, hol, hB⟩ := hrel
   by_cases hlt : k < zs.length
   · obtain ⟨b, off, rfl, e1, e2⟩ := hr1 k hlt
     have hd1 := cell_later hB e1
     have hd2 := cell_later hB e2
     have hgk := (S.good_iff _).1 (hC.good _ (List.getElem_mem hlt))
     have hfk := hlow k hlt f hfl
     have HDr : Hid (zs.drop k = zs[k] :: zs.drop (k + 1)) := List.drop_eq_getElem_cons hlt
     have hnext : Hid (∀ r ∈ zs.drop (k + 1), zs[k].2 + 1 ≤ r.1) := by
       intro r hr
       have hap := hC.apart
       obtain ⟨m, hm, rfl⟩ := List.mem_iff_getElem.1 hr
       rw [List.getElem_drop]
       rw [List.length_drop] at hm
       have := (List.pairwise_iff_getElem.1 hap) k (k + 1 + m) hlt (by omega) (by omega)
       omega
     generalize zs[k] = s at *
     obtain ⟨s1, s2⟩ := s
     simp only at hgk hd1 hd2 hfk hnext e1 e2
     have HE2 : Hid (nz = out ++ ((if f < s1 then [(f, s1 - 1)] else []) ++ gapsX (s2 + 1) (zs.drop (k + 1)))) := by
       have := HE.out
       rw [HDr.out, gapsX_cons (by omega) (by omega)] at this
       exact this
     have hw1 : IntKind.i32.wrap (s2 + 1) = s2 + 1 := by simp [IntKind.wrap, IntKind.bits, IntKind.signed]; omega
     have hw2 : IntKind.i32.wrap (s1 - 1) = s1 - 1 := by simp [IntKind.wrap, IntKind.bits, IntKind.signed]; omega
     clear HE HDr hfl hr1 hC hlow HN
     by_cases hlt2 : f < s1
     · rw [if_pos hlt2] at HE2
       go_wp2_with (at_builtin; refine wpl_appR Tryz.underlying23 info34 rfl _ _ rfl w1.heap.size _ out (some ⟨wr.heap.size, 0, none⟩) [(f, s1 - 1)] 1 1 rfl rfl rfl (OwnR.later ho (al1 _ _)) (by have := hB.size; simp at this ⊢; omega) (rdr_new _ f (s1 - 1) _) (fun e => by cases e) (by simp; omega) ?_; intro v' w5 hown' hb5 hgr5; have hB5 : Below w1.heap.size w1 w5 := (nx hB (al1 _ _)).trans hb5; have hd5 := cell_later hB5 e2)
       go_roundw
       case rel => exact ⟨k + 1, s2 + 1, out ++ [(f, s1 - 1)], by go_num, rfl, by omega, by omega, by omega, hnext.out, hown', by show _ = _; rw [List.append_assoc]; exact HE2.out, by simp; omega, hB5⟩
       case measure => simp [intOf]; omega
     · rw [if_neg hlt2, List.nil_append] at HE2
       have hlt3 : s1 ≤ f := by omega
       go_wp2
       go_roundw
       case rel => exact ⟨k + 1, s2 + 1, out, by go_num, rfl, by omega, by omega, by omega, hnext.out, ho, HE2, by omega, hB⟩
       case measure => simp [intOf]; omega
   · obtain rfl : k = zs.length := by omega
     have HE2 : Hid (nz = out ++ gapsX f []) := by
       have := HE.out
       rw [List.drop_length] at this
       exact this
     clear HE hfl hlow hr1 HN
     by_cases hle : f ≤ 1114111
     · have HE3 : Hid (nz = out ++ [(f, 1114111)]) := by rw [← gapsX_nil hle]; exact HE2
       clear HE2
       go_wp2_with (at_builtin; refine wpl_appR Tryz.underlying23 info34 rfl _ _ rfl w1.heap.size _ out (some ⟨wr.heap.size, 0, none⟩) [(f, 1114111)] 1 1 rfl rfl rfl (OwnR.later ho (al1 _ _)) (by have := hB.size; simp at this ⊢; omega) (rdr_new _ f 1114111 _) (fun e => by cases e) (by simp; omega) ?_; intro v' w5 hown' hb5 hgr5)
       go_ret
       rw [HE3.out]
       exact (hown'.base hb1.size).res (nx hb1 ((nx hB (al1 _ _)).trans hb5))
     · have HE3 : Hid (nz = out) := by
         have := HE2.out
         rw [gapsX_over hle, List.append_nil] at this
         exact this
       have hle' : 1114111 < f := by omega
       clear HE2
       go_wp2
       go_ret
       rw [HE3.out]
       exact (ho.base hb1.size).res (nx hb1 hB)
end Go.Proofs.YtamhjnemmdcniaaGreatDoor.U
