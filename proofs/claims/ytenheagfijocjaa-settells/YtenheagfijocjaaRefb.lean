/- The reference: Not, Union, Inter, Minus. -/
import Derived.Test.YtenheagfijocjaaRefof
namespace Go.Proofs.Ytenheagfijocjaa
open Go.RowKit Go.Shelf

/-- What is left of the gaps, once the next number is f: nothing, if f is beyond the code space. -/
def gapsX (f : Int) (l : List S.R) : List S.R := if f ≤ 1114111 then S.gaps f l else []
theorem gapsX_nil {f : Int} (h : f ≤ 1114111) : gapsX f [] = [(f, 1114111)] := by simp [gapsX, h, S.gaps]
theorem gapsX_over {f : Int} (h : ¬ f ≤ 1114111) (l : List S.R) : gapsX f l = [] := by simp [gapsX, h]
theorem gapsX_cons {f s1 s2 : Int} {l : List S.R} (h : f ≤ 1114111) (h2 : s2 ≤ 1114111) : gapsX f ((s1, s2) :: l) = (if f < s1 then [(f, s1 - 1)] else []) ++ gapsX (s2 + 1) l := by
  unfold gapsX
  rw [if_pos h]
  simp only [S.gaps]
  by_cases e : s2 = 1114111
  · rw [if_pos e, if_neg (show ¬ s2 + 1 ≤ 1114111 by omega)]
  · rw [if_neg e, if_pos (show s2 + 1 ≤ 1114111 by omega)]

set_option maxRecDepth 100000 in
set_option maxHeartbeats 4000000 in
theorem refNot_any (ao : Option Addr) (ca : Nat) (xs : List S.R) (hl : xs.length ≤ 400000) (w : World) (h : RdR w ao xs) :
    Calls Try.prog 24 #[.slice ao xs.length ca] w (Res w (S.not xs)) := by
  have hset := refOf_any ao ca xs hl w h
  have hs1 := S.set_length xs
  have hC := S.set_canon xs
  have HN : Hid (S.not xs = gapsX 0 (S.set xs)) := hide (by unfold gapsX; rw [if_pos (by omega)]; rfl)
  generalize S.set xs = zs at *
  generalize S.not xs = nz at *
  have hlow : ∀ k (hk : k < zs.length), ∀ f : Int, (∀ r ∈ zs.drop k, f ≤ r.1) → f ≤ zs[k].1 := fun k hk f hf => hf _ (by rw [List.drop_eq_getElem_cons hk]; exact List.Mem.head _)
  go_enter Try.func24, Try.ntmps24
  go_wp2_with fail
  refine hset.mono ?_
  clear hset
  rintro e w1 ⟨a1, c1, rfl, hr1, _, hb1⟩
  go_wp2
  go_loopw [4, 5, 6] (fun v q p wr => ∃ (k : Nat) (f : Int) (out : List S.R), p = .int .i64 (k : Int) ∧ q = .int .i32 f ∧ k ≤ zs.length ∧ 0 ≤ f ∧ f ≤ 1114112 ∧ (∀ r ∈ zs.drop k, f ≤ r.1) ∧ OwnR wr w1.heap.size 34 v out ∧ Hid (nz = out ++ gapsX f (zs.drop k)) ∧ out.length ≤ k ∧ Below w1.heap.size w1 wr) (fun _ _ p _ => zs.length - (intOf p).toNat)
  case atStart => exact ⟨0, 0, [], rfl, rfl, Nat.zero_le _, Int.le_refl _, by omega, (fun r hr => ((S.good_iff r).1 (hC.good r (List.mem_of_mem_drop hr))).1), ownR_nil _ _ _, HN.out, Nat.le_refl _, Below.refl _ _⟩
  case round =>
    obtain ⟨k, f, out, rfl, rfl, hk, hf0, hf1, hfl, ho, HE, hol, hB⟩ := hrel
    by_cases hlt : k < zs.length
    · obtain ⟨b, off, rfl, e1, e2⟩ := hr1 k hlt
      have hd1 := cell_later hB e1
      have hd2 := cell_later hB e2
      have hgk := (S.good_iff _).1 (hC.good _ (List.getElem_mem hlt))
      have hfk := hlow k hlt f hfl
      have HDr : Hid (zs.drop k = zs[k] :: zs.drop (k + 1)) := List.drop_eq_getElem_cons hlt
      have hnext : Hid (∀ r ∈ zs.drop (k + 1), zs[k].2 + 1 ≤ r.1) := by
        intro r hr
        have hap := hC.apart
        obtain ⟨m, hm, rfl⟩ := List.mem_iff_getElem.1 hr
        rw [List.getElem_drop]
        rw [List.length_drop] at hm
        have := (List.pairwise_iff_getElem.1 hap) k (k + 1 + m) hlt (by omega) (by omega)
        omega
      generalize zs[k] = s at *
      obtain ⟨s1, s2⟩ := s
      simp only at hgk hd1 hd2 hfk hnext e1 e2
      have HE2 : Hid (nz = out ++ ((if f < s1 then [(f, s1 - 1)] else []) ++ gapsX (s2 + 1) (zs.drop (k + 1)))) := by
        have := HE.out
        rw [HDr.out, gapsX_cons (by omega) (by omega)] at this
        exact this
      have hw1 : IntKind.i32.wrap (s2 + 1) = s2 + 1 := by simp [IntKind.wrap, IntKind.bits, IntKind.signed]; omega
      have hw2 : IntKind.i32.wrap (s1 - 1) = s1 - 1 := by simp [IntKind.wrap, IntKind.bits, IntKind.signed]; omega
      clear HE HDr hfl hr1 hC hlow HN
      by_cases hlt2 : f < s1
      · rw [if_pos hlt2] at HE2
        go_wp2_with (at_builtin; refine wpl_appR Try.underlying22 info34 rfl _ _ rfl w1.heap.size _ out (some ⟨wr.heap.size, 0, none⟩) [(f, s1 - 1)] 1 1 rfl rfl rfl (OwnR.later ho (al1 _ _)) (by have := hB.size; simp at this ⊢; omega) (rdr_new _ f (s1 - 1) _) (fun e => by cases e) (by simp; omega) ?_; intro v' w5 hown' hb5 hgr5; have hB5 : Below w1.heap.size w1 w5 := (nx hB (al1 _ _)).trans hb5; have hd5 := cell_later hB5 e2)
        go_roundw
        case rel => exact ⟨k + 1, s2 + 1, out ++ [(f, s1 - 1)], by go_num, rfl, by omega, by omega, by omega, hnext.out, hown', by show _ = _; rw [List.append_assoc]; exact HE2.out, by simp; omega, hB5⟩
        case measure => simp [intOf]; omega
      · rw [if_neg hlt2, List.nil_append] at HE2
        have hlt3 : s1 ≤ f := by omega
        go_wp2
        go_roundw
        case rel => exact ⟨k + 1, s2 + 1, out, by go_num, rfl, by omega, by omega, by omega, hnext.out, ho, HE2, by omega, hB⟩
        case measure => simp [intOf]; omega
    · obtain rfl : k = zs.length := by omega
      have HE2 : Hid (nz = out ++ gapsX f []) := by
        have := HE.out
        rw [List.drop_length] at this
        exact this
      clear HE hfl hlow hr1 HN
      by_cases hle : f ≤ 1114111
      · have HE3 : Hid (nz = out ++ [(f, 1114111)]) := by rw [← gapsX_nil hle]; exact HE2
        clear HE2
        go_wp2_with (at_builtin; refine wpl_appR Try.underlying22 info34 rfl _ _ rfl w1.heap.size _ out (some ⟨wr.heap.size, 0, none⟩) [(f, 1114111)] 1 1 rfl rfl rfl (OwnR.later ho (al1 _ _)) (by have := hB.size; simp at this ⊢; omega) (rdr_new _ f 1114111 _) (fun e => by cases e) (by simp; omega) ?_; intro v' w5 hown' hb5 hgr5)
        go_ret
        rw [HE3.out]
        exact (hown'.base hb1.size).res (nx hb1 ((nx hB (al1 _ _)).trans hb5))
      · have HE3 : Hid (nz = out) := by
          have := HE2.out
          rw [gapsX_over hle, List.append_nil] at this
          exact this
        have hle' : 1114111 < f := by omega
        clear HE2
        go_wp2
        go_ret
        rw [HE3.out]
        exact (ho.base hb1.size).res (nx hb1 hB)

set_option maxHeartbeats 2000000 in
theorem refUnion_any (ao bo : Option Addr) (ca cb : Nat) (xs ys : List S.R) (hn : ao = none → ca = 0) (hn2 : bo = none → cb = 0) (hl : xs.length + ys.length ≤ 400000) (w : World) (h : RdR w ao xs) (h2 : RdR w bo ys) :
    Calls Try.prog 18 #[.slice ao xs.length ca, .slice bo ys.length cb] w (Res w (S.set (xs ++ ys))) := by
  go_enter Try.func18, Try.ntmps18
  go_wp2_with (first
    | (at_builtin; refine wpl_appR Try.underlying22 info34 rfl (.const (.slice none 0 0)) (.tmp 5) rfl w.heap.size (.slice none 0 0) [] ao xs _ ca rfl rfl rfl (ownR_nil _ _ _) (Nat.le_refl _) h hn (by simp; omega) ?_; intro v1 w1 hown1 hb1 hgr1; rw [List.nil_append] at hown1)
    | (at_builtin; refine wpl_appR Try.underlying22 info34 rfl (.tmp 6) (.tmp 7) rfl w.heap.size _ xs bo ys _ cb rfl rfl rfl hown1 hb1.size (h2.later hb1) hn2 (by omega) ?_; intro v2 w2 hown2 hb2 hgr2; obtain ⟨a2, c2, rfl, _, _, hr2⟩ := hown2.rd)
    | fail)
  have hf := refOf_any a2 c2 (xs ++ ys) (by rw [List.length_append]; exact hl) w2 hr2
  rw [List.length_append] at hf
  refine hf.mono ?_
  clear hf
  rintro e w3 ⟨a3, c3, rfl, hr3, hn3, hb3⟩
  go_wp2
  go_ret
  exact ⟨a3, c3, rfl, hr3, hn3, (hb1.trans hb2).trans (hb3.mono (hb1.trans hb2).size)⟩

theorem not_length (xs : List S.R) : (S.not xs).length ≤ xs.length + 1 := by
  have h1 := S.gaps_length (S.set xs) 0
  have h2 := S.set_length xs
  unfold S.not
  omega
theorem hs_not (xs : List S.R) (p : Int) : S.hs (S.not xs) p ↔ 0 ≤ p ∧ p ≤ 1114111 ∧ ¬ S.hs xs p := by
  rw [(S.not_canon xs).hs, S.not_has]
theorem inter_eq (xs ys : List S.R) : S.not (S.set (S.not xs ++ S.not ys)) = S.inter xs ys := S.canon_eq (S.not_canon _) (S.inter_canon _ _) fun p => by
  rw [S.not_has, S.inter_has, (S.set_canon _).hs, S.set_has, S.hs_append, hs_not, hs_not]
  constructor
  · rintro ⟨h1, h2, h3⟩
    constructor
    · exact Classical.byContradiction fun hh => h3 (.inl ⟨h1, h2, hh⟩)
    · exact Classical.byContradiction fun hh => h3 (.inr ⟨h1, h2, hh⟩)
  · rintro ⟨h1, h2⟩
    have hb := S.hs_bounds h1
    refine ⟨hb.1, hb.2, ?_⟩
    rintro (hh | hh)
    · exact hh.2.2 h1
    · exact hh.2.2 h2
theorem minus_eq (xs ys : List S.R) : S.inter xs (S.not ys) = S.minus xs ys := S.canon_eq (S.inter_canon _ _) (S.minus_canon _ _) fun p => by
  rw [S.inter_has, S.minus_has, hs_not]
  constructor
  · rintro ⟨h1, h2⟩
    exact ⟨h1, h2.2.2⟩
  · rintro ⟨h1, h2⟩
    have hb := S.hs_bounds h1
    exact ⟨h1, hb.1, hb.2, h2⟩

set_option maxHeartbeats 2000000 in
theorem refInter_any (ao bo : Option Addr) (ca cb : Nat) (xs ys : List S.R) (hl : xs.length ≤ 100000) (hl2 : ys.length ≤ 100000) (w : World) (h : RdR w ao xs) (h2 : RdR w bo ys) :
    Calls Try.prog 20 #[.slice ao xs.length ca, .slice bo ys.length cb] w (Res w (S.inter xs ys)) := by
  have k1 := not_length xs
  have k2 := not_length ys
  have k3 := S.set_length (S.not xs ++ S.not ys)
  have HE := hide (inter_eq xs ys)
  have hN1 := refNot_any ao ca xs (by omega)
  have hN2 := refNot_any bo cb ys (by omega)
  rw [List.length_append] at k3
  have hU := fun a b c d hn hn2 => refUnion_any a b c d (S.not xs) (S.not ys) hn hn2 (by omega)
  have hN3 := fun a c => refNot_any a c (S.set (S.not xs ++ S.not ys)) (by omega)
  rw [HE.out] at hN3
  clear HE
  generalize S.inter xs ys = zz at *
  generalize S.set (S.not xs ++ S.not ys) = uu at *
  generalize S.not xs = nx1 at *
  generalize S.not ys = ny1 at *
  go_enter Try.func20, Try.ntmps20
  go_wp2_with fail
  refine (hN1 w h).mono ?_
  clear hN1
  rintro e w1 ⟨a1, c1, rfl, hr1, hn1, hb1⟩
  go_wp2_with fail
  refine (hN2 w1 (h2.later hb1)).mono ?_
  clear hN2
  rintro e w2 ⟨a2, c2, rfl, hr2, hn2, hb2⟩
  go_wp2_with fail
  refine (hU a1 a2 c1 c2 hn1 hn2 w2 (hr1.later hb2) hr2).mono ?_
  clear hU
  rintro e w3 ⟨a3, c3, rfl, hr3, hn3, hb3⟩
  go_wp2_with fail
  refine (hN3 a3 c3 w3 hr3).mono ?_
  clear hN3
  rintro e w4 ⟨a4, c4, rfl, hr4, hn4, hb4⟩
  go_wp2
  go_ret
  exact ⟨a4, c4, rfl, hr4, hn4, nx (nx (nx hb1 hb2) hb3) hb4⟩

set_option maxHeartbeats 2000000 in
theorem refMinus_any (ao bo : Option Addr) (ca cb : Nat) (xs ys : List S.R) (hl : xs.length ≤ 10000) (hl2 : ys.length ≤ 10000) (w : World) (h : RdR w ao xs) (h2 : RdR w bo ys) :
    Calls Try.prog 22 #[.slice ao xs.length ca, .slice bo ys.length cb] w (Res w (S.minus xs ys)) := by
  have k2 := not_length ys
  have HE := hide (minus_eq xs ys)
  have hN2 := refNot_any bo cb ys (by omega)
  have hI := fun b d => refInter_any ao b ca d xs (S.not ys) (by omega) (by omega)
  rw [HE.out] at hI
  clear HE
  generalize S.minus xs ys = zz at *
  generalize S.not ys = ny1 at *
  go_enter Try.func22, Try.ntmps22
  go_wp2_with fail
  refine (hN2 w h2).mono ?_
  clear hN2
  rintro e w2 ⟨a2, c2, rfl, hr2, hn2, hb2⟩
  go_wp2_with fail
  refine (hI a2 c2 w2 (h.later hb2) hr2).mono ?_
  clear hI
  rintro e w3 ⟨a3, c3, rfl, hr3, hn3, hb3⟩
  go_wp2
  go_ret
  exact ⟨a3, c3, rfl, hr3, hn3, nx hb2 hb3⟩
end Go.Proofs.Ytenheagfijocjaa
