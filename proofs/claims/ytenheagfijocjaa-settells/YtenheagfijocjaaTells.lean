/- The walk of SetTells: it answers true whatever the lists and the number; nothing that was there has turned. -/
import Derived.Test.YtenheagfijocjaaRefa
import Derived.Test.YtenheagfijocjaaRefb
import Derived.Test.YtenheagfijocjaaRefis
import Derived.Test.YtenheagfijocjaaSame
import Derived.Test.YtenheagfijocjaaLeast
namespace Go.Proofs.Ytenheagfijocjaa
open Go.RowKit Go.Shelf

theorem tl_none {xs : List S.R} (h : (S.low (S.goods xs)).2 = false) : (S.low (S.goods xs)).1 = 0 ∧ S.set xs = [] := by
  have h1 := S.low_spec (S.goods xs)
  have hg : S.goods xs = [] := by
    cases hq : S.goods xs with
    | nil => rfl
    | cons y l => rw [hq] at h h1; rw [h1.1.2 (by simp)] at h; cases h
  exact ⟨h1.2.1 h, (S.set_eq S.canon_nil fun p => by rw [S.hs, hg]).symm⟩
theorem tl_some {xs : List S.R} {l : Int} (h : S.low (S.goods xs) = (l, true)) : ∃ y t, S.set xs = (l, y) :: t := by
  have h1 := (S.low_spec (S.goods xs)).2.2 (by rw [h])
  rw [h] at h1
  obtain ⟨⟨r, hr, e⟩, hmin⟩ := h1
  simp only at e hmin
  have hgr := (S.good_iff r).1 (S.goods_good hr)
  have hl : S.hs xs l := ⟨r, hr, by omega, by omega⟩
  have hge : ∀ p, S.hs xs p → l ≤ p := by
    rintro p ⟨r', hr', h2, h3⟩
    have := hmin r' hr'
    omega
  have hC := S.set_canon xs
  have hH := S.set_has xs
  cases hz : S.set xs with
  | nil =>
    rw [hz] at hH
    exact absurd ((hH l).2 hl) (S.has_nil l)
  | cons z t =>
    rw [hz] at hH hC
    have hh := hC.head
    have a1 := hge z.1 ((hH z.1).1 ((S.has_cons _ _ _).2 (.inl ⟨Int.le_refl _, hh.2.1⟩)))
    have a2 : z.1 ≤ l := by
      rcases (S.has_cons _ _ _).1 ((hH l).2 hl) with a | a
      · exact a.1
      · have := hC.behind a
        omega
    obtain ⟨z1, z2⟩ := z
    simp only at a1 a2
    obtain rfl : z1 = l := by omega
    exact ⟨z2, t, rfl⟩
theorem told_bool {p : Prop} {e : Ending} (h : Told p e) {q : Bool} (hq : q = true ↔ p) : e = .returned (.bool q) := by
  obtain ⟨b, rfl, hb⟩ := h
  have : b = q := by rw [Bool.eq_iff_iff, hb, hq]
  rw [this]
theorem bool_of (p : Prop) : ∃ q : Bool, q = true ↔ p := by
  by_cases h : p
  · exact ⟨true, by simp [h]⟩
  · exact ⟨false, by simp [h]⟩
theorem normE_two (xs : List S.R) : normE xs = 0 ∨ normE xs = 30 := by
  unfold normE
  split
  · exact .inl rfl
  · exact .inr rfl
theorem normL_length (xs : List S.R) : (normL xs).length ≤ xs.length := by
  unfold normL
  split
  · exact S.set_length xs
  · simp
theorem tl_inter_length (a b : List S.R) : (S.inter a b).length ≤ a.length + b.length := by
  have h1 := S.common_length _ (S.set a) (S.set b) (Nat.le_refl _)
  have h2 := S.set_length a
  have h3 := S.set_length b
  show (S.common (S.set a) (S.set b)).length ≤ _
  omega
theorem tl_minus_length (a b : List S.R) : (S.minus a b).length ≤ a.length + b.length + 1 := by
  have h1 := S.common_length _ (S.set a) (S.not b) (Nat.le_refl _)
  have h2 := S.set_length a
  have h4 := not_length b
  show (S.common (S.set a) (S.not b)).length ≤ _
  omega

/-- A list comes back. -/
def Gv (w : World) (l : List S.R) (e : Ending) (W' : World) : Prop := ∃ a c, e = .returned (.slice a l.length c) ∧ RdR W' a l ∧ Below w.heap.size w W'
theorem Res.gv {w W' : World} {l : List S.R} {e : Ending} (h : Res w l e W') : Gv w l e W' := by
  obtain ⟨a, c, he, hr, _, hb⟩ := h
  exact ⟨a, c, he, hr, hb⟩

set_option maxRecDepth 100000 in
set_option maxHeartbeats 16000000 in
theorem tells_any (ao bo : Option Addr) (ca cb : Nat) (xs ys : List S.R) (r : Int) (hn : ao = none → ca = 0) (hn2 : bo = none → cb = 0) (h32 : ∀ r ∈ xs, -2147483648 ≤ r.1 ∧ r.1 ≤ 2147483647 ∧ -2147483648 ≤ r.2 ∧ r.2 ≤ 2147483647)
    (hm : xs.length ≤ 9223372036854775807) (hm2 : ys.length ≤ 9223372036854775807) (w : World) (h : RdR w ao xs) (h2 : RdR w bo ys) :
    Calls Try.prog 3 #[.slice ao xs.length ca, .slice bo ys.length cb, .int .i32 r] w fun e w' => e = .returned (.bool true) ∧ Below w.heap.size w w' := by
  by_cases hbig : 60 < xs.length
  · go_enter Try.func3, Try.ntmps3
    go_wp2_with fail
    refine (known_any w).mono ?_
    rintro e w1 ⟨rfl, hb1⟩
    go_wp2
    go_ret
    exact ⟨rfl, hb1⟩
  by_cases hbig2 : 60 < ys.length
  · go_enter Try.func3, Try.ntmps3
    go_wp2_with fail
    refine (known_any w).mono ?_
    rintro e w1 ⟨rfl, hb1⟩
    go_wp2
    go_ret
    exact ⟨rfl, hb1⟩
  clear hm hm2
  have l1 : xs.length ≤ 60 := by omega
  have l2 : ys.length ≤ 60 := by omega
  obtain ⟨q, hq⟩ := bool_of (S.Canon xs)
  obtain ⟨q2, hq2⟩ := bool_of (S.set xs = S.set ys)
  have k10 : ∀ a c W, RdR W a xs → Calls Try.prog 10 #[.slice a xs.length c] W fun e W' => ∃ a c, e = .returned (.tuple #[.slice a (normL xs).length c, .int .i64 (normE xs)]) ∧ RdR W' a (normL xs) ∧ Below W.heap.size W W' := fun a c W hW => (norm_any a c xs (by omega) W hW).mono (by
    rintro e W' ⟨a', c', he, hr, _, hb⟩
    exact ⟨a', c', he, hr, hb⟩)
  have k11 := refNorm_any ao ca xs (by omega)
  have k12 := least_any ao ca xs (by omega)
  have k13 : ∀ W, RdR W ao xs → Calls Try.prog 13 #[.slice ao xs.length ca] W (Gv W (S.set xs)) := fun W hW => (refOf_any ao ca xs (by omega) W hW).mono fun e W' hh => hh.gv
  have k13y : ∀ W, RdR W bo ys → Calls Try.prog 13 #[.slice bo ys.length cb] W (Gv W (S.set ys)) := fun W hW => (refOf_any bo cb ys (by omega) W hW).mono fun e W' hh => hh.gv
  have k14 : ∀ a b c d (l : List S.R) (_ : l.length ≤ 1000), ∀ W, RdR W a l → RdR W b l → Calls Try.prog 14 #[.slice a l.length c, .slice b l.length d] W fun e W' => e = .returned (.bool true) ∧ Below W.heap.size W W' := fun a b c d l hl W h1 h2 => (refSame_any a b c d l l (by omega) W h1 h2).mono (by
    rintro e W' ⟨ht, hb⟩
    exact ⟨told_bool ht (by simp), hb⟩)
  have zl := S.set_length xs
  have yl := S.set_length ys
  have k14y : ∀ a b c d W, RdR W a (S.set xs) → RdR W b (S.set ys) → Calls Try.prog 14 #[.slice a (S.set xs).length c, .slice b (S.set ys).length d] W fun e W' => e = .returned (.bool q2) ∧ Below W.heap.size W W' := fun a b c d W h1 h2 => (refSame_any a b c d (S.set xs) (S.set ys) (by omega) W h1 h2).mono (by
    rintro e W' ⟨ht, hb⟩
    exact ⟨told_bool ht hq2, hb⟩)
  have k15 : ∀ W, RdR W ao xs → Calls Try.prog 15 #[.slice ao xs.length ca] W fun e W' => e = .returned (.bool q) ∧ Below W.heap.size W W' := fun W hW => (is_any ao ca xs h32 (by omega) W hW).mono (by
    rintro e W' ⟨ht, hb⟩
    exact ⟨told_bool ht hq, hb⟩)
  have k16 : ∀ W, RdR W ao xs → Calls Try.prog 16 #[.slice ao xs.length ca] W fun e W' => e = .returned (.bool q) ∧ Below W.heap.size W W' := fun W hW => (refIs_any ao ca xs (by omega) W hW).mono (by
    rintro e W' ⟨ht, hb⟩
    exact ⟨told_bool ht hq, hb⟩)
  have k17 : ∀ W, RdR W ao xs → RdR W bo ys → Calls Try.prog 17 #[.slice ao xs.length ca, .slice bo ys.length cb] W (Gv W (S.set (xs ++ ys))) := fun W h1 h2 => (union_any ao bo ca cb xs ys (by omega) W h1 h2).mono fun e W' hh => hh.gv
  have k18 : ∀ W, RdR W ao xs → RdR W bo ys → Calls Try.prog 18 #[.slice ao xs.length ca, .slice bo ys.length cb] W (Gv W (S.set (xs ++ ys))) := fun W h1 h2 => (refUnion_any ao bo ca cb xs ys hn hn2 (by omega) W h1 h2).mono fun e W' hh => hh.gv
  have k19 : ∀ W, RdR W ao xs → RdR W bo ys → Calls Try.prog 19 #[.slice ao xs.length ca, .slice bo ys.length cb] W (Gv W (S.inter xs ys)) := fun W h1 h2 => (inter_any ao bo ca cb xs ys (by omega) (by omega) W h1 h2).mono fun e W' hh => hh.gv
  have k20 : ∀ W, RdR W ao xs → RdR W bo ys → Calls Try.prog 20 #[.slice ao xs.length ca, .slice bo ys.length cb] W (Gv W (S.inter xs ys)) := fun W h1 h2 => (refInter_any ao bo ca cb xs ys (by omega) (by omega) W h1 h2).mono fun e W' hh => hh.gv
  have k21 : ∀ W, RdR W ao xs → RdR W bo ys → Calls Try.prog 21 #[.slice ao xs.length ca, .slice bo ys.length cb] W (Gv W (S.minus xs ys)) := fun W h1 h2 => (minus_any ao bo ca cb xs ys (by omega) (by omega) W h1 h2).mono fun e W' hh => hh.gv
  have k22 : ∀ W, RdR W ao xs → RdR W bo ys → Calls Try.prog 22 #[.slice ao xs.length ca, .slice bo ys.length cb] W (Gv W (S.minus xs ys)) := fun W h1 h2 => (refMinus_any ao bo ca cb xs ys (by omega) (by omega) W h1 h2).mono fun e W' hh => hh.gv
  have k23 : ∀ W, RdR W ao xs → Calls Try.prog 23 #[.slice ao xs.length ca] W (Gv W (S.not xs)) := fun W h1 => (not_any ao ca xs (by omega) W h1).mono fun e W' hh => hh.gv
  have k24 : ∀ W, RdR W ao xs → Calls Try.prog 24 #[.slice ao xs.length ca] W (Gv W (S.not xs)) := fun W h1 => (refNot_any ao ca xs (by omega) W h1).mono fun e W' hh => hh.gv
  have k25 := has_any ao ca xs r (by omega)
  have k26 := refHas_any ao ca xs r (by omega)
  have k27 := count_any ao ca xs (by omega)
  have k28 := refCount_any ao ca xs (by omega)
  have k29 : ∀ W, RdR W ao xs → RdR W bo ys → Calls Try.prog 29 #[.slice ao xs.length ca, .slice bo ys.length cb] W fun e W' => e = .returned (.bool q2) ∧ Below W.heap.size W W' := fun W h1 h2 => (same_any ao bo ca cb xs ys (by omega) (by omega) W h1 h2).mono (by
    rintro e W' ⟨ht, hb⟩
    exact ⟨told_bool ht hq2, hb⟩)
  have hnl : (normL xs).length ≤ 1000 := by have := normL_length xs; omega
  have hus : (S.set (xs ++ ys)).length ≤ 1000 := by have := S.set_length (xs ++ ys); rw [List.length_append] at this; omega
  have hii : (S.inter xs ys).length ≤ 1000 := by have := tl_inter_length xs ys; omega
  have hms : (S.minus xs ys).length ≤ 1000 := by have := tl_minus_length xs ys; omega
  have hns : (S.not xs).length ≤ 1000 := by have := not_length xs; omega
  have hE := normE_two xs
  have hL0 := @tl_none xs
  have hL1 := @tl_some xs
  clear hq hq2 h32
  generalize normL xs = nl at *
  generalize normE xs = ne at *
  generalize S.set (xs ++ ys) = us at *
  generalize S.inter xs ys = ii at *
  generalize S.minus xs ys = ms at *
  generalize S.not xs = ns at *
  generalize S.hB xs r = hb' at *
  generalize S.count (S.set xs) = cn at *
  generalize S.set xs = zs at *
  generalize S.set ys = zt at *
  cases hq : S.low (S.goods xs) with
  | mk l f =>
  rw [hq] at k12 hL0
  simp only at k12 hL0
  cases f with
  | false =>
    obtain ⟨rfl, rfl⟩ := hL0 rfl
    clear hL1 hL0 hq
    simp only [List.length_nil] at k13 k14y
    unfold Gv at *
    simp only [List.length_nil] at k13
    rcases hE with rfl | rfl
    · simp only [decide_true] at k11
      go_enter Try.func3, Try.ntmps3
      go_wp2_with fail
      refine (known_any w).mono ?_
      rintro e w1 ⟨rfl, hb1⟩
      have hx := h.later hb1
      have hy := h2.later hb1
      clear h h2
      go_wp2_with (first
        | (at_builtin; refine wpl_appR Try.underlying22 info34 rfl (.const (.slice none 0 0)) (.tmp 25) rfl w1.heap.size (.slice none 0 0) [] ao xs _ ca rfl rfl rfl (ownR_nil _ _ _) (Nat.le_refl _) hx hn (by simp; omega) ?_; intro v2 w2 hown2 hb2 hgr2; rw [List.nil_append] at hown2; obtain ⟨a2, c2, rfl, _, _, hr2⟩ := hown2.rd)
        | fail)
      replace hx := hx.later hb2
      replace hy := hy.later hb2
      have hB := nx hb1 hb2
      refine (k10 a2 c2 w2 hr2).mono ?_
      rintro e w3 ⟨a3, c3, rfl, hr3, hb3⟩
      replace hx := hx.later hb3
      replace hy := hy.later hb3
      replace hB := nx hB hb3
      clear hown2 hr2 hgr2
      go_wp2_with fail
      refine (k11 w3 hx).mono ?_
      rintro e w4 ⟨a4, c4, rfl, hr4, hb4⟩
      replace hx := hx.later hb4
      replace hy := hy.later hb4
      replace hB := nx hB hb4
      replace hr3 := hr3.later hb4
      go_wp2_with fail
      refine (k12 w4 hx).mono ?_
      rintro e w5 ⟨rfl, hb5⟩
      replace hx := hx.later hb5
      replace hy := hy.later hb5
      replace hB := nx hB hb5
      replace hr3 := hr3.later hb5
      replace hr4 := hr4.later hb5
      go_wp2_with fail
      refine (k13 w5 hx).mono ?_
      rintro e w6 ⟨a6, c6, rfl, hr6, hb6⟩
      replace hx := hx.later hb6
      replace hy := hy.later hb6
      replace hB := nx hB hb6
      replace hr3 := hr3.later hb6
      replace hr4 := hr4.later hb6
      go_wp2_with fail
      refine (k14 a3 a4 c3 c4 nl hnl w6 hr3 hr4).mono ?_
      rintro e w7 ⟨rfl, hb7⟩
      replace hx := hx.later hb7
      replace hy := hy.later hb7
      replace hB := nx hB hb7
      go_wp2_with fail
      refine (k15 w7 hx).mono ?_
      rintro e w8 ⟨rfl, hb8⟩
      replace hx := hx.later hb8
      replace hy := hy.later hb8
      replace hB := nx hB hb8
      go_wp2_with fail
      refine (k16 w8 hx).mono ?_
      rintro e w9 ⟨rfl, hb9⟩
      replace hx := hx.later hb9
      replace hy := hy.later hb9
      replace hB := nx hB hb9
      go_wp2_with fail
      refine (k17 w9 hx hy).mono ?_
      rintro e w10 ⟨a10, c10, rfl, hr10, hb10⟩
      replace hx := hx.later hb10
      replace hy := hy.later hb10
      replace hB := nx hB hb10
      go_wp2_with fail
      refine (k18 w10 hx hy).mono ?_
      rintro e w11 ⟨a11, c11, rfl, hr11, hb11⟩
      replace hx := hx.later hb11
      replace hy := hy.later hb11
      replace hB := nx hB hb11
      replace hr10 := hr10.later hb11
      go_wp2_with fail
      refine (k14 a10 a11 c10 c11 us hus w11 hr10 hr11).mono ?_
      rintro e w12 ⟨rfl, hb12⟩
      replace hx := hx.later hb12
      replace hy := hy.later hb12
      replace hB := nx hB hb12
      go_wp2_with fail
      refine (k19 w12 hx hy).mono ?_
      rintro e w13 ⟨a13, c13, rfl, hr13, hb13⟩
      replace hx := hx.later hb13
      replace hy := hy.later hb13
      replace hB := nx hB hb13
      go_wp2_with fail
      refine (k20 w13 hx hy).mono ?_
      rintro e w14 ⟨a14, c14, rfl, hr14, hb14⟩
      replace hx := hx.later hb14
      replace hy := hy.later hb14
      replace hB := nx hB hb14
      replace hr13 := hr13.later hb14
      go_wp2_with fail
      refine (k14 a13 a14 c13 c14 ii hii w14 hr13 hr14).mono ?_
      rintro e w15 ⟨rfl, hb15⟩
      replace hx := hx.later hb15
      replace hy := hy.later hb15
      replace hB := nx hB hb15
      go_wp2_with fail
      refine (k21 w15 hx hy).mono ?_
      rintro e w16 ⟨a16, c16, rfl, hr16, hb16⟩
      replace hx := hx.later hb16
      replace hy := hy.later hb16
      replace hB := nx hB hb16
      go_wp2_with fail
      refine (k22 w16 hx hy).mono ?_
      rintro e w17 ⟨a17, c17, rfl, hr17, hb17⟩
      replace hx := hx.later hb17
      replace hy := hy.later hb17
      replace hB := nx hB hb17
      replace hr16 := hr16.later hb17
      go_wp2_with fail
      refine (k14 a16 a17 c16 c17 ms hms w17 hr16 hr17).mono ?_
      rintro e w18 ⟨rfl, hb18⟩
      replace hx := hx.later hb18
      replace hy := hy.later hb18
      replace hB := nx hB hb18
      go_wp2_with fail
      refine (k23 w18 hx).mono ?_
      rintro e w19 ⟨a19, c19, rfl, hr19, hb19⟩
      replace hx := hx.later hb19
      replace hy := hy.later hb19
      replace hB := nx hB hb19
      go_wp2_with fail
      refine (k24 w19 hx).mono ?_
      rintro e w20 ⟨a20, c20, rfl, hr20, hb20⟩
      replace hx := hx.later hb20
      replace hy := hy.later hb20
      replace hB := nx hB hb20
      replace hr19 := hr19.later hb20
      go_wp2_with fail
      refine (k14 a19 a20 c19 c20 ns hns w20 hr19 hr20).mono ?_
      rintro e w21 ⟨rfl, hb21⟩
      replace hx := hx.later hb21
      replace hy := hy.later hb21
      replace hB := nx hB hb21
      go_wp2_with fail
      refine (k25 w21 hx).mono ?_
      rintro e w22 ⟨rfl, hb22⟩
      replace hx := hx.later hb22
      replace hy := hy.later hb22
      replace hB := nx hB hb22
      go_wp2_with fail
      refine (k26 w22 hx).mono ?_
      rintro e w23 ⟨rfl, hb23⟩
      replace hx := hx.later hb23
      replace hy := hy.later hb23
      replace hB := nx hB hb23
      go_wp2_with fail
      refine (k27 w23 hx).mono ?_
      rintro e w24 ⟨rfl, hb24⟩
      replace hx := hx.later hb24
      replace hy := hy.later hb24
      replace hB := nx hB hb24
      go_wp2_with fail
      refine (k28 w24 hx).mono ?_
      rintro e w25 ⟨rfl, hb25⟩
      replace hx := hx.later hb25
      replace hy := hy.later hb25
      replace hB := nx hB hb25
      go_wp2_with fail
      refine (k29 w25 hx hy).mono ?_
      rintro e w26 ⟨rfl, hb26⟩
      replace hx := hx.later hb26
      replace hy := hy.later hb26
      replace hB := nx hB hb26
      go_wp2_with fail
      refine (k13 w26 hx).mono ?_
      rintro e w27 ⟨a27, c27, rfl, hr27, hb27⟩
      replace hx := hx.later hb27
      replace hy := hy.later hb27
      replace hB := nx hB hb27
      go_wp2_with fail
      refine (k13y w27 hy).mono ?_
      rintro e w28 ⟨a28, c28, rfl, hr28, hb28⟩
      replace hx := hx.later hb28
      replace hy := hy.later hb28
      replace hB := nx hB hb28
      replace hr27 := hr27.later hb28
      go_wp2_with fail
      refine (k14y a27 a28 c27 c28 w28 hr27 hr28).mono ?_
      rintro e w29 ⟨rfl, hb29⟩
      replace hx := hx.later hb29
      replace hy := hy.later hb29
      replace hB := nx hB hb29
      go_wp2
      go_ret
      exact ⟨rfl, hB⟩
    · simp only [show decide ((30 : Int) = 0) = false from rfl] at k11
      go_enter Try.func3, Try.ntmps3
      go_wp2_with fail
      refine (known_any w).mono ?_
      rintro e w1 ⟨rfl, hb1⟩
      have hx := h.later hb1
      have hy := h2.later hb1
      clear h h2
      go_wp2_with (first
        | (at_builtin; refine wpl_appR Try.underlying22 info34 rfl (.const (.slice none 0 0)) (.tmp 25) rfl w1.heap.size (.slice none 0 0) [] ao xs _ ca rfl rfl rfl (ownR_nil _ _ _) (Nat.le_refl _) hx hn (by simp; omega) ?_; intro v2 w2 hown2 hb2 hgr2; rw [List.nil_append] at hown2; obtain ⟨a2, c2, rfl, _, _, hr2⟩ := hown2.rd)
        | fail)
      replace hx := hx.later hb2
      replace hy := hy.later hb2
      have hB := nx hb1 hb2
      refine (k10 a2 c2 w2 hr2).mono ?_
      rintro e w3 ⟨a3, c3, rfl, hr3, hb3⟩
      replace hx := hx.later hb3
      replace hy := hy.later hb3
      replace hB := nx hB hb3
      clear hown2 hr2 hgr2
      go_wp2_with fail
      refine (k11 w3 hx).mono ?_
      rintro e w4 ⟨a4, c4, rfl, hr4, hb4⟩
      replace hx := hx.later hb4
      replace hy := hy.later hb4
      replace hB := nx hB hb4
      replace hr3 := hr3.later hb4
      go_wp2_with fail
      refine (k12 w4 hx).mono ?_
      rintro e w5 ⟨rfl, hb5⟩
      replace hx := hx.later hb5
      replace hy := hy.later hb5
      replace hB := nx hB hb5
      replace hr3 := hr3.later hb5
      replace hr4 := hr4.later hb5
      go_wp2_with fail
      refine (k13 w5 hx).mono ?_
      rintro e w6 ⟨a6, c6, rfl, hr6, hb6⟩
      replace hx := hx.later hb6
      replace hy := hy.later hb6
      replace hB := nx hB hb6
      replace hr3 := hr3.later hb6
      replace hr4 := hr4.later hb6
      go_wp2_with fail
      refine (k14 a3 a4 c3 c4 nl hnl w6 hr3 hr4).mono ?_
      rintro e w7 ⟨rfl, hb7⟩
      replace hx := hx.later hb7
      replace hy := hy.later hb7
      replace hB := nx hB hb7
      go_wp2_with fail
      refine (k15 w7 hx).mono ?_
      rintro e w8 ⟨rfl, hb8⟩
      replace hx := hx.later hb8
      replace hy := hy.later hb8
      replace hB := nx hB hb8
      go_wp2_with fail
      refine (k16 w8 hx).mono ?_
      rintro e w9 ⟨rfl, hb9⟩
      replace hx := hx.later hb9
      replace hy := hy.later hb9
      replace hB := nx hB hb9
      go_wp2_with fail
      refine (k17 w9 hx hy).mono ?_
      rintro e w10 ⟨a10, c10, rfl, hr10, hb10⟩
      replace hx := hx.later hb10
      replace hy := hy.later hb10
      replace hB := nx hB hb10
      go_wp2_with fail
      refine (k18 w10 hx hy).mono ?_
      rintro e w11 ⟨a11, c11, rfl, hr11, hb11⟩
      replace hx := hx.later hb11
      replace hy := hy.later hb11
      replace hB := nx hB hb11
      replace hr10 := hr10.later hb11
      go_wp2_with fail
      refine (k14 a10 a11 c10 c11 us hus w11 hr10 hr11).mono ?_
      rintro e w12 ⟨rfl, hb12⟩
      replace hx := hx.later hb12
      replace hy := hy.later hb12
      replace hB := nx hB hb12
      go_wp2_with fail
      refine (k19 w12 hx hy).mono ?_
      rintro e w13 ⟨a13, c13, rfl, hr13, hb13⟩
      replace hx := hx.later hb13
      replace hy := hy.later hb13
      replace hB := nx hB hb13
      go_wp2_with fail
      refine (k20 w13 hx hy).mono ?_
      rintro e w14 ⟨a14, c14, rfl, hr14, hb14⟩
      replace hx := hx.later hb14
      replace hy := hy.later hb14
      replace hB := nx hB hb14
      replace hr13 := hr13.later hb14
      go_wp2_with fail
      refine (k14 a13 a14 c13 c14 ii hii w14 hr13 hr14).mono ?_
      rintro e w15 ⟨rfl, hb15⟩
      replace hx := hx.later hb15
      replace hy := hy.later hb15
      replace hB := nx hB hb15
      go_wp2_with fail
      refine (k21 w15 hx hy).mono ?_
      rintro e w16 ⟨a16, c16, rfl, hr16, hb16⟩
      replace hx := hx.later hb16
      replace hy := hy.later hb16
      replace hB := nx hB hb16
      go_wp2_with fail
      refine (k22 w16 hx hy).mono ?_
      rintro e w17 ⟨a17, c17, rfl, hr17, hb17⟩
      replace hx := hx.later hb17
      replace hy := hy.later hb17
      replace hB := nx hB hb17
      replace hr16 := hr16.later hb17
      go_wp2_with fail
      refine (k14 a16 a17 c16 c17 ms hms w17 hr16 hr17).mono ?_
      rintro e w18 ⟨rfl, hb18⟩
      replace hx := hx.later hb18
      replace hy := hy.later hb18
      replace hB := nx hB hb18
      go_wp2_with fail
      refine (k23 w18 hx).mono ?_
      rintro e w19 ⟨a19, c19, rfl, hr19, hb19⟩
      replace hx := hx.later hb19
      replace hy := hy.later hb19
      replace hB := nx hB hb19
      go_wp2_with fail
      refine (k24 w19 hx).mono ?_
      rintro e w20 ⟨a20, c20, rfl, hr20, hb20⟩
      replace hx := hx.later hb20
      replace hy := hy.later hb20
      replace hB := nx hB hb20
      replace hr19 := hr19.later hb20
      go_wp2_with fail
      refine (k14 a19 a20 c19 c20 ns hns w20 hr19 hr20).mono ?_
      rintro e w21 ⟨rfl, hb21⟩
      replace hx := hx.later hb21
      replace hy := hy.later hb21
      replace hB := nx hB hb21
      go_wp2_with fail
      refine (k25 w21 hx).mono ?_
      rintro e w22 ⟨rfl, hb22⟩
      replace hx := hx.later hb22
      replace hy := hy.later hb22
      replace hB := nx hB hb22
      go_wp2_with fail
      refine (k26 w22 hx).mono ?_
      rintro e w23 ⟨rfl, hb23⟩
      replace hx := hx.later hb23
      replace hy := hy.later hb23
      replace hB := nx hB hb23
      go_wp2_with fail
      refine (k27 w23 hx).mono ?_
      rintro e w24 ⟨rfl, hb24⟩
      replace hx := hx.later hb24
      replace hy := hy.later hb24
      replace hB := nx hB hb24
      go_wp2_with fail
      refine (k28 w24 hx).mono ?_
      rintro e w25 ⟨rfl, hb25⟩
      replace hx := hx.later hb25
      replace hy := hy.later hb25
      replace hB := nx hB hb25
      go_wp2_with fail
      refine (k29 w25 hx hy).mono ?_
      rintro e w26 ⟨rfl, hb26⟩
      replace hx := hx.later hb26
      replace hy := hy.later hb26
      replace hB := nx hB hb26
      go_wp2_with fail
      refine (k13 w26 hx).mono ?_
      rintro e w27 ⟨a27, c27, rfl, hr27, hb27⟩
      replace hx := hx.later hb27
      replace hy := hy.later hb27
      replace hB := nx hB hb27
      go_wp2_with fail
      refine (k13y w27 hy).mono ?_
      rintro e w28 ⟨a28, c28, rfl, hr28, hb28⟩
      replace hx := hx.later hb28
      replace hy := hy.later hb28
      replace hB := nx hB hb28
      replace hr27 := hr27.later hb28
      go_wp2_with fail
      refine (k14y a27 a28 c27 c28 w28 hr27 hr28).mono ?_
      rintro e w29 ⟨rfl, hb29⟩
      replace hx := hx.later hb29
      replace hy := hy.later hb29
      replace hB := nx hB hb29
      go_wp2
      go_ret
      exact ⟨rfl, hB⟩
  | true =>
    obtain ⟨y, t, hzs⟩ := hL1 hq
    have hz0 : 0 < zs.length := by rw [hzs]; simp
    have hzl : (zs[0]'hz0).1 = l := by simp [hzs]
    clear hL1 hL0 hq hzs
    unfold Gv at *
    rcases hE with rfl | rfl
    · simp only [decide_true] at k11
      go_enter Try.func3, Try.ntmps3
      go_wp2_with fail
      refine (known_any w).mono ?_
      rintro e w1 ⟨rfl, hb1⟩
      have hx := h.later hb1
      have hy := h2.later hb1
      clear h h2
      go_wp2_with (first
        | (at_builtin; refine wpl_appR Try.underlying22 info34 rfl (.const (.slice none 0 0)) (.tmp 25) rfl w1.heap.size (.slice none 0 0) [] ao xs _ ca rfl rfl rfl (ownR_nil _ _ _) (Nat.le_refl _) hx hn (by simp; omega) ?_; intro v2 w2 hown2 hb2 hgr2; rw [List.nil_append] at hown2; obtain ⟨a2, c2, rfl, _, _, hr2⟩ := hown2.rd)
        | fail)
      replace hx := hx.later hb2
      replace hy := hy.later hb2
      have hB := nx hb1 hb2
      refine (k10 a2 c2 w2 hr2).mono ?_
      rintro e w3 ⟨a3, c3, rfl, hr3, hb3⟩
      replace hx := hx.later hb3
      replace hy := hy.later hb3
      replace hB := nx hB hb3
      clear hown2 hr2 hgr2
      go_wp2_with fail
      refine (k11 w3 hx).mono ?_
      rintro e w4 ⟨a4, c4, rfl, hr4, hb4⟩
      replace hx := hx.later hb4
      replace hy := hy.later hb4
      replace hB := nx hB hb4
      replace hr3 := hr3.later hb4
      go_wp2_with fail
      refine (k12 w4 hx).mono ?_
      rintro e w5 ⟨rfl, hb5⟩
      replace hx := hx.later hb5
      replace hy := hy.later hb5
      replace hB := nx hB hb5
      replace hr3 := hr3.later hb5
      replace hr4 := hr4.later hb5
      go_wp2_with fail
      refine (k13 w5 hx).mono ?_
      rintro e w6 ⟨a6, c6, rfl, hr6, hb6⟩
      replace hx := hx.later hb6
      replace hy := hy.later hb6
      replace hB := nx hB hb6
      replace hr3 := hr3.later hb6
      replace hr4 := hr4.later hb6
      obtain ⟨b6, off6, rfl, e6, _⟩ := hr6 0 hz0
      rw [hzl, Nat.zero_mul, Nat.add_zero] at e6
      clear hr6
      go_wp2_with fail
      refine (k14 a3 a4 c3 c4 nl hnl w6 hr3 hr4).mono ?_
      rintro e w7 ⟨rfl, hb7⟩
      replace hx := hx.later hb7
      replace hy := hy.later hb7
      replace hB := nx hB hb7
      replace e6 := cell_later hb7 e6
      go_wp2_with fail
      refine (k15 w7 hx).mono ?_
      rintro e w8 ⟨rfl, hb8⟩
      replace hx := hx.later hb8
      replace hy := hy.later hb8
      replace hB := nx hB hb8
      go_wp2_with fail
      refine (k16 w8 hx).mono ?_
      rintro e w9 ⟨rfl, hb9⟩
      replace hx := hx.later hb9
      replace hy := hy.later hb9
      replace hB := nx hB hb9
      go_wp2_with fail
      refine (k17 w9 hx hy).mono ?_
      rintro e w10 ⟨a10, c10, rfl, hr10, hb10⟩
      replace hx := hx.later hb10
      replace hy := hy.later hb10
      replace hB := nx hB hb10
      go_wp2_with fail
      refine (k18 w10 hx hy).mono ?_
      rintro e w11 ⟨a11, c11, rfl, hr11, hb11⟩
      replace hx := hx.later hb11
      replace hy := hy.later hb11
      replace hB := nx hB hb11
      replace hr10 := hr10.later hb11
      go_wp2_with fail
      refine (k14 a10 a11 c10 c11 us hus w11 hr10 hr11).mono ?_
      rintro e w12 ⟨rfl, hb12⟩
      replace hx := hx.later hb12
      replace hy := hy.later hb12
      replace hB := nx hB hb12
      go_wp2_with fail
      refine (k19 w12 hx hy).mono ?_
      rintro e w13 ⟨a13, c13, rfl, hr13, hb13⟩
      replace hx := hx.later hb13
      replace hy := hy.later hb13
      replace hB := nx hB hb13
      go_wp2_with fail
      refine (k20 w13 hx hy).mono ?_
      rintro e w14 ⟨a14, c14, rfl, hr14, hb14⟩
      replace hx := hx.later hb14
      replace hy := hy.later hb14
      replace hB := nx hB hb14
      replace hr13 := hr13.later hb14
      go_wp2_with fail
      refine (k14 a13 a14 c13 c14 ii hii w14 hr13 hr14).mono ?_
      rintro e w15 ⟨rfl, hb15⟩
      replace hx := hx.later hb15
      replace hy := hy.later hb15
      replace hB := nx hB hb15
      go_wp2_with fail
      refine (k21 w15 hx hy).mono ?_
      rintro e w16 ⟨a16, c16, rfl, hr16, hb16⟩
      replace hx := hx.later hb16
      replace hy := hy.later hb16
      replace hB := nx hB hb16
      go_wp2_with fail
      refine (k22 w16 hx hy).mono ?_
      rintro e w17 ⟨a17, c17, rfl, hr17, hb17⟩
      replace hx := hx.later hb17
      replace hy := hy.later hb17
      replace hB := nx hB hb17
      replace hr16 := hr16.later hb17
      go_wp2_with fail
      refine (k14 a16 a17 c16 c17 ms hms w17 hr16 hr17).mono ?_
      rintro e w18 ⟨rfl, hb18⟩
      replace hx := hx.later hb18
      replace hy := hy.later hb18
      replace hB := nx hB hb18
      go_wp2_with fail
      refine (k23 w18 hx).mono ?_
      rintro e w19 ⟨a19, c19, rfl, hr19, hb19⟩
      replace hx := hx.later hb19
      replace hy := hy.later hb19
      replace hB := nx hB hb19
      go_wp2_with fail
      refine (k24 w19 hx).mono ?_
      rintro e w20 ⟨a20, c20, rfl, hr20, hb20⟩
      replace hx := hx.later hb20
      replace hy := hy.later hb20
      replace hB := nx hB hb20
      replace hr19 := hr19.later hb20
      go_wp2_with fail
      refine (k14 a19 a20 c19 c20 ns hns w20 hr19 hr20).mono ?_
      rintro e w21 ⟨rfl, hb21⟩
      replace hx := hx.later hb21
      replace hy := hy.later hb21
      replace hB := nx hB hb21
      go_wp2_with fail
      refine (k25 w21 hx).mono ?_
      rintro e w22 ⟨rfl, hb22⟩
      replace hx := hx.later hb22
      replace hy := hy.later hb22
      replace hB := nx hB hb22
      go_wp2_with fail
      refine (k26 w22 hx).mono ?_
      rintro e w23 ⟨rfl, hb23⟩
      replace hx := hx.later hb23
      replace hy := hy.later hb23
      replace hB := nx hB hb23
      go_wp2_with fail
      refine (k27 w23 hx).mono ?_
      rintro e w24 ⟨rfl, hb24⟩
      replace hx := hx.later hb24
      replace hy := hy.later hb24
      replace hB := nx hB hb24
      go_wp2_with fail
      refine (k28 w24 hx).mono ?_
      rintro e w25 ⟨rfl, hb25⟩
      replace hx := hx.later hb25
      replace hy := hy.later hb25
      replace hB := nx hB hb25
      go_wp2_with fail
      refine (k29 w25 hx hy).mono ?_
      rintro e w26 ⟨rfl, hb26⟩
      replace hx := hx.later hb26
      replace hy := hy.later hb26
      replace hB := nx hB hb26
      go_wp2_with fail
      refine (k13 w26 hx).mono ?_
      rintro e w27 ⟨a27, c27, rfl, hr27, hb27⟩
      replace hx := hx.later hb27
      replace hy := hy.later hb27
      replace hB := nx hB hb27
      go_wp2_with fail
      refine (k13y w27 hy).mono ?_
      rintro e w28 ⟨a28, c28, rfl, hr28, hb28⟩
      replace hx := hx.later hb28
      replace hy := hy.later hb28
      replace hB := nx hB hb28
      replace hr27 := hr27.later hb28
      go_wp2_with fail
      refine (k14y a27 a28 c27 c28 w28 hr27 hr28).mono ?_
      rintro e w29 ⟨rfl, hb29⟩
      replace hx := hx.later hb29
      replace hy := hy.later hb29
      replace hB := nx hB hb29
      go_wp2
      go_ret
      exact ⟨rfl, hB⟩
    · simp only [show decide ((30 : Int) = 0) = false from rfl] at k11
      go_enter Try.func3, Try.ntmps3
      go_wp2_with fail
      refine (known_any w).mono ?_
      rintro e w1 ⟨rfl, hb1⟩
      have hx := h.later hb1
      have hy := h2.later hb1
      clear h h2
      go_wp2_with (first
        | (at_builtin; refine wpl_appR Try.underlying22 info34 rfl (.const (.slice none 0 0)) (.tmp 25) rfl w1.heap.size (.slice none 0 0) [] ao xs _ ca rfl rfl rfl (ownR_nil _ _ _) (Nat.le_refl _) hx hn (by simp; omega) ?_; intro v2 w2 hown2 hb2 hgr2; rw [List.nil_append] at hown2; obtain ⟨a2, c2, rfl, _, _, hr2⟩ := hown2.rd)
        | fail)
      replace hx := hx.later hb2
      replace hy := hy.later hb2
      have hB := nx hb1 hb2
      refine (k10 a2 c2 w2 hr2).mono ?_
      rintro e w3 ⟨a3, c3, rfl, hr3, hb3⟩
      replace hx := hx.later hb3
      replace hy := hy.later hb3
      replace hB := nx hB hb3
      clear hown2 hr2 hgr2
      go_wp2_with fail
      refine (k11 w3 hx).mono ?_
      rintro e w4 ⟨a4, c4, rfl, hr4, hb4⟩
      replace hx := hx.later hb4
      replace hy := hy.later hb4
      replace hB := nx hB hb4
      replace hr3 := hr3.later hb4
      go_wp2_with fail
      refine (k12 w4 hx).mono ?_
      rintro e w5 ⟨rfl, hb5⟩
      replace hx := hx.later hb5
      replace hy := hy.later hb5
      replace hB := nx hB hb5
      replace hr3 := hr3.later hb5
      replace hr4 := hr4.later hb5
      go_wp2_with fail
      refine (k13 w5 hx).mono ?_
      rintro e w6 ⟨a6, c6, rfl, hr6, hb6⟩
      replace hx := hx.later hb6
      replace hy := hy.later hb6
      replace hB := nx hB hb6
      replace hr3 := hr3.later hb6
      replace hr4 := hr4.later hb6
      obtain ⟨b6, off6, rfl, e6, _⟩ := hr6 0 hz0
      rw [hzl, Nat.zero_mul, Nat.add_zero] at e6
      clear hr6
      go_wp2_with fail
      refine (k14 a3 a4 c3 c4 nl hnl w6 hr3 hr4).mono ?_
      rintro e w7 ⟨rfl, hb7⟩
      replace hx := hx.later hb7
      replace hy := hy.later hb7
      replace hB := nx hB hb7
      replace e6 := cell_later hb7 e6
      go_wp2_with fail
      refine (k15 w7 hx).mono ?_
      rintro e w8 ⟨rfl, hb8⟩
      replace hx := hx.later hb8
      replace hy := hy.later hb8
      replace hB := nx hB hb8
      go_wp2_with fail
      refine (k16 w8 hx).mono ?_
      rintro e w9 ⟨rfl, hb9⟩
      replace hx := hx.later hb9
      replace hy := hy.later hb9
      replace hB := nx hB hb9
      go_wp2_with fail
      refine (k17 w9 hx hy).mono ?_
      rintro e w10 ⟨a10, c10, rfl, hr10, hb10⟩
      replace hx := hx.later hb10
      replace hy := hy.later hb10
      replace hB := nx hB hb10
      go_wp2_with fail
      refine (k18 w10 hx hy).mono ?_
      rintro e w11 ⟨a11, c11, rfl, hr11, hb11⟩
      replace hx := hx.later hb11
      replace hy := hy.later hb11
      replace hB := nx hB hb11
      replace hr10 := hr10.later hb11
      go_wp2_with fail
      refine (k14 a10 a11 c10 c11 us hus w11 hr10 hr11).mono ?_
      rintro e w12 ⟨rfl, hb12⟩
      replace hx := hx.later hb12
      replace hy := hy.later hb12
      replace hB := nx hB hb12
      go_wp2_with fail
      refine (k19 w12 hx hy).mono ?_
      rintro e w13 ⟨a13, c13, rfl, hr13, hb13⟩
      replace hx := hx.later hb13
      replace hy := hy.later hb13
      replace hB := nx hB hb13
      go_wp2_with fail
      refine (k20 w13 hx hy).mono ?_
      rintro e w14 ⟨a14, c14, rfl, hr14, hb14⟩
      replace hx := hx.later hb14
      replace hy := hy.later hb14
      replace hB := nx hB hb14
      replace hr13 := hr13.later hb14
      go_wp2_with fail
      refine (k14 a13 a14 c13 c14 ii hii w14 hr13 hr14).mono ?_
      rintro e w15 ⟨rfl, hb15⟩
      replace hx := hx.later hb15
      replace hy := hy.later hb15
      replace hB := nx hB hb15
      go_wp2_with fail
      refine (k21 w15 hx hy).mono ?_
      rintro e w16 ⟨a16, c16, rfl, hr16, hb16⟩
      replace hx := hx.later hb16
      replace hy := hy.later hb16
      replace hB := nx hB hb16
      go_wp2_with fail
      refine (k22 w16 hx hy).mono ?_
      rintro e w17 ⟨a17, c17, rfl, hr17, hb17⟩
      replace hx := hx.later hb17
      replace hy := hy.later hb17
      replace hB := nx hB hb17
      replace hr16 := hr16.later hb17
      go_wp2_with fail
      refine (k14 a16 a17 c16 c17 ms hms w17 hr16 hr17).mono ?_
      rintro e w18 ⟨rfl, hb18⟩
      replace hx := hx.later hb18
      replace hy := hy.later hb18
      replace hB := nx hB hb18
      go_wp2_with fail
      refine (k23 w18 hx).mono ?_
      rintro e w19 ⟨a19, c19, rfl, hr19, hb19⟩
      replace hx := hx.later hb19
      replace hy := hy.later hb19
      replace hB := nx hB hb19
      go_wp2_with fail
      refine (k24 w19 hx).mono ?_
      rintro e w20 ⟨a20, c20, rfl, hr20, hb20⟩
      replace hx := hx.later hb20
      replace hy := hy.later hb20
      replace hB := nx hB hb20
      replace hr19 := hr19.later hb20
      go_wp2_with fail
      refine (k14 a19 a20 c19 c20 ns hns w20 hr19 hr20).mono ?_
      rintro e w21 ⟨rfl, hb21⟩
      replace hx := hx.later hb21
      replace hy := hy.later hb21
      replace hB := nx hB hb21
      go_wp2_with fail
      refine (k25 w21 hx).mono ?_
      rintro e w22 ⟨rfl, hb22⟩
      replace hx := hx.later hb22
      replace hy := hy.later hb22
      replace hB := nx hB hb22
      go_wp2_with fail
      refine (k26 w22 hx).mono ?_
      rintro e w23 ⟨rfl, hb23⟩
      replace hx := hx.later hb23
      replace hy := hy.later hb23
      replace hB := nx hB hb23
      go_wp2_with fail
      refine (k27 w23 hx).mono ?_
      rintro e w24 ⟨rfl, hb24⟩
      replace hx := hx.later hb24
      replace hy := hy.later hb24
      replace hB := nx hB hb24
      go_wp2_with fail
      refine (k28 w24 hx).mono ?_
      rintro e w25 ⟨rfl, hb25⟩
      replace hx := hx.later hb25
      replace hy := hy.later hb25
      replace hB := nx hB hb25
      go_wp2_with fail
      refine (k29 w25 hx hy).mono ?_
      rintro e w26 ⟨rfl, hb26⟩
      replace hx := hx.later hb26
      replace hy := hy.later hb26
      replace hB := nx hB hb26
      go_wp2_with fail
      refine (k13 w26 hx).mono ?_
      rintro e w27 ⟨a27, c27, rfl, hr27, hb27⟩
      replace hx := hx.later hb27
      replace hy := hy.later hb27
      replace hB := nx hB hb27
      go_wp2_with fail
      refine (k13y w27 hy).mono ?_
      rintro e w28 ⟨a28, c28, rfl, hr28, hb28⟩
      replace hx := hx.later hb28
      replace hy := hy.later hb28
      replace hB := nx hB hb28
      replace hr27 := hr27.later hb28
      go_wp2_with fail
      refine (k14y a27 a28 c27 c28 w28 hr27 hr28).mono ?_
      rintro e w29 ⟨rfl, hb29⟩
      replace hx := hx.later hb29
      replace hy := hy.later hb29
      replace hB := nx hB hb29
      go_wp2
      go_ret
      exact ⟨rfl, hB⟩
end Go.Proofs.Ytenheagfijocjaa
