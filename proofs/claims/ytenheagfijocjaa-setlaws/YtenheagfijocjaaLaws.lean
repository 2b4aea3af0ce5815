/- The walk of SetLaws: it answers true whatever the three lists; nothing that was there has turned. -/
import Derived.Test.YtenheagfijocjaaSame
import Derived.Test.YtenheagfijocjaaBounds
namespace Go.Proofs.Ytenheagfijocjaa
open Go.RowKit Go.Shelf

theorem inter_length (a b : List S.R) : (S.inter a b).length ≤ a.length + b.length := by
  have h1 := S.common_length _ (S.set a) (S.set b) (Nat.le_refl _)
  have h2 := S.set_length a
  have h3 := S.set_length b
  show (S.common (S.set a) (S.set b)).length ≤ _
  omega
theorem not_length (a : List S.R) : (S.not a).length ≤ a.length + 1 := by
  have h2 := S.set_length a
  have h3 : (S.not a).length ≤ (S.set a).length + 1 := S.gaps_length (S.set a) 0
  omega
theorem minus_length (a b : List S.R) : (S.minus a b).length ≤ a.length + b.length + 1 := by
  have h1 := S.common_length _ (S.set a) (S.not b) (Nat.le_refl _)
  have h2 := S.set_length a
  have h3 := not_length b
  show (S.common (S.set a) (S.not b)).length ≤ _
  omega
theorem hs_nil (p : Int) : S.hs [] p ↔ False := ⟨fun h => S.has_nil p h, False.elim⟩
theorem canon32 {l : List S.R} (h : S.Canon l) : ∀ r ∈ l, -2147483648 ≤ r.1 ∧ r.1 ≤ 2147483647 ∧ -2147483648 ≤ r.2 ∧ r.2 ≤ 2147483647 := fun r hr => by
  have := (S.good_iff r).1 (h.good r hr)
  omega

set_option maxRecDepth 100000 in
set_option maxHeartbeats 8000000 in
theorem laws_any (ao bo co : Option Addr) (ca cb cc : Nat) (xs ys zs : List S.R) (hm1 : xs.length ≤ 9223372036854775807) (hm2 : ys.length ≤ 9223372036854775807) (hm3 : zs.length ≤ 9223372036854775807) (w : World) (hx : RdR w ao xs) (hy : RdR w bo ys) (hz : RdR w co zs) :
    Calls Try.prog 5 #[.slice ao xs.length ca, .slice bo ys.length cb, .slice co zs.length cc] w fun e w' => e = .returned (.bool true) ∧ Below w.heap.size w w' := by
  by_cases hbigxs : 30 < xs.length
  · go_enter Try.func5, Try.ntmps5
    go_wp2_with fail
    refine (known_any w).mono ?_
    rintro e w1 ⟨rfl, hb1⟩
    go_wp2
    go_ret
    exact ⟨rfl, hb1⟩
  by_cases hbigys : 30 < ys.length
  · go_enter Try.func5, Try.ntmps5
    go_wp2_with fail
    refine (known_any w).mono ?_
    rintro e w1 ⟨rfl, hb1⟩
    go_wp2
    go_ret
    exact ⟨rfl, hb1⟩
  by_cases hbigzs : 30 < zs.length
  · go_enter Try.func5, Try.ntmps5
    go_wp2_with fail
    refine (known_any w).mono ?_
    rintro e w1 ⟨rfl, hb1⟩
    go_wp2
    go_ret
    exact ⟨rfl, hb1⟩
  clear hm1 hm2 hm3
  obtain ⟨Lu, y_u⟩ : ∃ l, S.set (xs ++ ys) = l := ⟨_, rfl⟩
  have Y_u := hide y_u
  have B_u : Lu.length ≤ 60 := by rw [← y_u]; exact Nat.le_trans (S.set_length _) (by simp; omega)
  have Q_u : S.Canon Lu := by rw [← y_u]; exact S.set_canon _
  have M_u : ∀ p, S.hs Lu p ↔ S.hs xs p ∨ S.hs ys p := fun p => by rw [Q_u.hs, ← y_u, S.set_has, S.hs_append]
  clear y_u
  obtain ⟨Ln, y_n⟩ : ∃ l, S.inter xs ys = l := ⟨_, rfl⟩
  have Y_n := hide y_n
  have B_n : Ln.length ≤ 60 := by rw [← y_n]; exact Nat.le_trans (inter_length _ _) (by omega)
  have Q_n : S.Canon Ln := by rw [← y_n]; exact S.inter_canon _ _
  have M_n : ∀ p, S.hs Ln p ↔ S.hs xs p ∧ S.hs ys p := fun p => by rw [Q_n.hs, ← y_n, S.inter_has]
  clear y_n
  obtain ⟨Ls, y_s⟩ : ∃ l, S.set (xs ++ []) = l := ⟨_, rfl⟩
  have Y_s := hide y_s
  have B_s : Ls.length ≤ 30 := by rw [← y_s]; exact Nat.le_trans (S.set_length _) (by simp; omega)
  have Q_s : S.Canon Ls := by rw [← y_s]; exact S.set_canon _
  have M_s : ∀ p, S.hs Ls p ↔ S.hs xs p ∨ S.hs [] p := fun p => by rw [Q_s.hs, ← y_s, S.set_has, S.hs_append]
  clear y_s
  obtain ⟨Lp, y_p⟩ : ∃ l, S.not xs = l := ⟨_, rfl⟩
  have Y_p := hide y_p
  have B_p : Lp.length ≤ 31 := by rw [← y_p]; exact Nat.le_trans (not_length _) (by omega)
  have Q_p : S.Canon Lp := by rw [← y_p]; exact S.not_canon _
  have M_p : ∀ p, S.hs Lp p ↔ 0 ≤ p ∧ p ≤ 1114111 ∧ ¬ S.hs xs p := fun p => by rw [Q_p.hs, ← y_p, S.not_has]
  clear y_p
  obtain ⟨Lq, y_q⟩ : ∃ l, S.not Lp = l := ⟨_, rfl⟩
  have Y_q := hide y_q
  have B_q : Lq.length ≤ 32 := by rw [← y_q]; exact Nat.le_trans (not_length _) (by omega)
  have Q_q : S.Canon Lq := by rw [← y_q]; exact S.not_canon _
  have M_q : ∀ p, S.hs Lq p ↔ 0 ≤ p ∧ p ≤ 1114111 ∧ ¬ S.hs Lp p := fun p => by rw [Q_q.hs, ← y_q, S.not_has]
  clear y_q
  obtain ⟨Ld, y_d⟩ : ∃ l, S.not Lu = l := ⟨_, rfl⟩
  have Y_d := hide y_d
  have B_d : Ld.length ≤ 61 := by rw [← y_d]; exact Nat.le_trans (not_length _) (by omega)
  have Q_d : S.Canon Ld := by rw [← y_d]; exact S.not_canon _
  have M_d : ∀ p, S.hs Ld p ↔ 0 ≤ p ∧ p ≤ 1114111 ∧ ¬ S.hs Lu p := fun p => by rw [Q_d.hs, ← y_d, S.not_has]
  clear y_d
  obtain ⟨Lf, y_f⟩ : ∃ l, S.not xs = l := ⟨_, rfl⟩
  have Y_f := hide y_f
  have B_f : Lf.length ≤ 31 := by rw [← y_f]; exact Nat.le_trans (not_length _) (by omega)
  have Q_f : S.Canon Lf := by rw [← y_f]; exact S.not_canon _
  have M_f : ∀ p, S.hs Lf p ↔ 0 ≤ p ∧ p ≤ 1114111 ∧ ¬ S.hs xs p := fun p => by rw [Q_f.hs, ← y_f, S.not_has]
  clear y_f
  obtain ⟨Lg, y_g⟩ : ∃ l, S.not ys = l := ⟨_, rfl⟩
  have Y_g := hide y_g
  have B_g : Lg.length ≤ 31 := by rw [← y_g]; exact Nat.le_trans (not_length _) (by omega)
  have Q_g : S.Canon Lg := by rw [← y_g]; exact S.not_canon _
  have M_g : ∀ p, S.hs Lg p ↔ 0 ≤ p ∧ p ≤ 1114111 ∧ ¬ S.hs ys p := fun p => by rw [Q_g.hs, ← y_g, S.not_has]
  clear y_g
  obtain ⟨Li, y_i⟩ : ∃ l, S.inter Lf Lg = l := ⟨_, rfl⟩
  have Y_i := hide y_i
  have B_i : Li.length ≤ 62 := by rw [← y_i]; exact Nat.le_trans (inter_length _ _) (by omega)
  have Q_i : S.Canon Li := by rw [← y_i]; exact S.inter_canon _ _
  have M_i : ∀ p, S.hs Li p ↔ S.hs Lf p ∧ S.hs Lg p := fun p => by rw [Q_i.hs, ← y_i, S.inter_has]
  clear y_i
  obtain ⟨Lj, y_j⟩ : ∃ l, S.set (ys ++ zs) = l := ⟨_, rfl⟩
  have Y_j := hide y_j
  have B_j : Lj.length ≤ 60 := by rw [← y_j]; exact Nat.le_trans (S.set_length _) (by simp; omega)
  have Q_j : S.Canon Lj := by rw [← y_j]; exact S.set_canon _
  have M_j : ∀ p, S.hs Lj p ↔ S.hs ys p ∨ S.hs zs p := fun p => by rw [Q_j.hs, ← y_j, S.set_has, S.hs_append]
  clear y_j
  obtain ⟨Lm, y_m⟩ : ∃ l, S.inter xs Lj = l := ⟨_, rfl⟩
  have Y_m := hide y_m
  have B_m : Lm.length ≤ 90 := by rw [← y_m]; exact Nat.le_trans (inter_length _ _) (by omega)
  have Q_m : S.Canon Lm := by rw [← y_m]; exact S.inter_canon _ _
  have M_m : ∀ p, S.hs Lm p ↔ S.hs xs p ∧ S.hs Lj p := fun p => by rw [Q_m.hs, ← y_m, S.inter_has]
  clear y_m
  obtain ⟨Lo, y_o⟩ : ∃ l, S.inter xs zs = l := ⟨_, rfl⟩
  have Y_o := hide y_o
  have B_o : Lo.length ≤ 60 := by rw [← y_o]; exact Nat.le_trans (inter_length _ _) (by omega)
  have Q_o : S.Canon Lo := by rw [← y_o]; exact S.inter_canon _ _
  have M_o : ∀ p, S.hs Lo p ↔ S.hs xs p ∧ S.hs zs p := fun p => by rw [Q_o.hs, ← y_o, S.inter_has]
  clear y_o
  obtain ⟨Lr, y_r⟩ : ∃ l, S.set (Ln ++ Lo) = l := ⟨_, rfl⟩
  have Y_r := hide y_r
  have B_r : Lr.length ≤ 120 := by rw [← y_r]; exact Nat.le_trans (S.set_length _) (by simp; omega)
  have Q_r : S.Canon Lr := by rw [← y_r]; exact S.set_canon _
  have M_r : ∀ p, S.hs Lr p ↔ S.hs Ln p ∨ S.hs Lo p := fun p => by rw [Q_r.hs, ← y_r, S.set_has, S.hs_append]
  clear y_r
  obtain ⟨Lt, y_t⟩ : ∃ l, S.minus xs ys = l := ⟨_, rfl⟩
  have Y_t := hide y_t
  have B_t : Lt.length ≤ 61 := by rw [← y_t]; exact Nat.le_trans (minus_length _ _) (by omega)
  have Q_t : S.Canon Lt := by rw [← y_t]; exact S.minus_canon _ _
  have M_t : ∀ p, S.hs Lt p ↔ S.hs xs p ∧ ¬ S.hs ys p := fun p => by rw [Q_t.hs, ← y_t, S.minus_has]
  clear y_t
  obtain ⟨Lv, y_v⟩ : ∃ l, S.not ys = l := ⟨_, rfl⟩
  have Y_v := hide y_v
  have B_v : Lv.length ≤ 31 := by rw [← y_v]; exact Nat.le_trans (not_length _) (by omega)
  have Q_v : S.Canon Lv := by rw [← y_v]; exact S.not_canon _
  have M_v : ∀ p, S.hs Lv p ↔ 0 ≤ p ∧ p ≤ 1114111 ∧ ¬ S.hs ys p := fun p => by rw [Q_v.hs, ← y_v, S.not_has]
  clear y_v
  obtain ⟨LA, y_A⟩ : ∃ l, S.inter xs Lv = l := ⟨_, rfl⟩
  have Y_A := hide y_A
  have B_A : LA.length ≤ 61 := by rw [← y_A]; exact Nat.le_trans (inter_length _ _) (by omega)
  have Q_A : S.Canon LA := by rw [← y_A]; exact S.inter_canon _ _
  have M_A : ∀ p, S.hs LA p ↔ S.hs xs p ∧ S.hs Lv p := fun p => by rw [Q_A.hs, ← y_A, S.inter_has]
  clear y_A
  obtain ⟨LB, y_B⟩ : ∃ l, S.minus xs ys = l := ⟨_, rfl⟩
  have Y_B := hide y_B
  have B_B : LB.length ≤ 61 := by rw [← y_B]; exact Nat.le_trans (minus_length _ _) (by omega)
  have Q_B : S.Canon LB := by rw [← y_B]; exact S.minus_canon _ _
  have M_B : ∀ p, S.hs LB p ↔ S.hs xs p ∧ ¬ S.hs ys p := fun p => by rw [Q_B.hs, ← y_B, S.minus_has]
  clear y_B
  obtain ⟨LD, y_D⟩ : ∃ l, S.set (LB ++ Ln) = l := ⟨_, rfl⟩
  have Y_D := hide y_D
  have B_D : LD.length ≤ 121 := by rw [← y_D]; exact Nat.le_trans (S.set_length _) (by simp; omega)
  have Q_D : S.Canon LD := by rw [← y_D]; exact S.set_canon _
  have M_D : ∀ p, S.hs LD p ↔ S.hs LB p ∨ S.hs Ln p := fun p => by rw [Q_D.hs, ← y_D, S.set_has, S.hs_append]
  clear y_D
  obtain ⟨LG, y_G⟩ : ∃ l, S.set (ys ++ xs) = l := ⟨_, rfl⟩
  have Y_G := hide y_G
  have B_G : LG.length ≤ 60 := by rw [← y_G]; exact Nat.le_trans (S.set_length _) (by simp; omega)
  have Q_G : S.Canon LG := by rw [← y_G]; exact S.set_canon _
  have M_G : ∀ p, S.hs LG p ↔ S.hs ys p ∨ S.hs xs p := fun p => by rw [Q_G.hs, ← y_G, S.set_has, S.hs_append]
  clear y_G
  have F5 := hide Q_u
  have Ku := canon32 Q_u
  have F6 := hide Q_n
  have Kn := canon32 Q_n
  have F9 : Hid (S.set Lq = S.set Ls) := same_true fun p => by
    simp only [M_q, M_p, M_s, hs_nil]
    have bxs := @S.hs_bounds xs p
    have bys := @S.hs_bounds ys p
    have bzs := @S.hs_bounds zs p
    by_cases h_xs : S.hs xs p <;> by_cases h_ys : S.hs ys p <;> by_cases h_zs : S.hs zs p <;> simp [*] <;> first | exact bxs h_xs | exact bys h_ys | exact bzs h_zs | (have := bxs h_xs; omega) | (have := bys h_ys; omega) | (have := bzs h_zs; omega) | omega | (intros; omega)
  have F14 : Hid (S.set Ld = S.set Li) := same_true fun p => by
    simp only [M_d, M_u, M_i, M_f, M_g]
    have bxs := @S.hs_bounds xs p
    have bys := @S.hs_bounds ys p
    have bzs := @S.hs_bounds zs p
    by_cases h_xs : S.hs xs p <;> by_cases h_ys : S.hs ys p <;> by_cases h_zs : S.hs zs p <;> simp [*] <;> first | exact bxs h_xs | exact bys h_ys | exact bzs h_zs | (have := bxs h_xs; omega) | (have := bys h_ys; omega) | (have := bzs h_zs; omega) | omega | (intros; omega)
  have F19 : Hid (S.set Lm = S.set Lr) := same_true fun p => by
    simp only [M_m, M_j, M_r, M_n, M_o]
    have bxs := @S.hs_bounds xs p
    have bys := @S.hs_bounds ys p
    have bzs := @S.hs_bounds zs p
    by_cases h_xs : S.hs xs p <;> by_cases h_ys : S.hs ys p <;> by_cases h_zs : S.hs zs p <;> simp [*] <;> first | exact bxs h_xs | exact bys h_ys | exact bzs h_zs | (have := bxs h_xs; omega) | (have := bys h_ys; omega) | (have := bzs h_zs; omega) | omega | (intros; omega)
  have F27 : Hid (S.set Lt = S.set LA) := same_true fun p => by
    simp only [M_t, M_A, M_v]
    have bxs := @S.hs_bounds xs p
    have bys := @S.hs_bounds ys p
    have bzs := @S.hs_bounds zs p
    by_cases h_xs : S.hs xs p <;> by_cases h_ys : S.hs ys p <;> by_cases h_zs : S.hs zs p <;> simp [*] <;> first | exact bxs h_xs | exact bys h_ys | exact bzs h_zs | (have := bxs h_xs; omega) | (have := bys h_ys; omega) | (have := bzs h_zs; omega) | omega | (intros; omega)
  have F30 : Hid (S.set LD = S.set Ls) := same_true fun p => by
    simp only [M_D, M_B, M_n, M_s, hs_nil]
    have bxs := @S.hs_bounds xs p
    have bys := @S.hs_bounds ys p
    have bzs := @S.hs_bounds zs p
    by_cases h_xs : S.hs xs p <;> by_cases h_ys : S.hs ys p <;> by_cases h_zs : S.hs zs p <;> simp [*] <;> first | exact bxs h_xs | exact bys h_ys | exact bzs h_zs | (have := bxs h_xs; omega) | (have := bys h_ys; omega) | (have := bzs h_zs; omega) | omega | (intros; omega)
  have F32 : Hid (S.set Lu = S.set LG) := same_true fun p => by
    simp only [M_u, M_G]
    have bxs := @S.hs_bounds xs p
    have bys := @S.hs_bounds ys p
    have bzs := @S.hs_bounds zs p
    by_cases h_xs : S.hs xs p <;> by_cases h_ys : S.hs ys p <;> by_cases h_zs : S.hs zs p <;> simp [*] <;> first | exact bxs h_xs | exact bys h_ys | exact bzs h_zs | (have := bxs h_xs; omega) | (have := bys h_ys; omega) | (have := bzs h_zs; omega) | omega | (intros; omega)
  have HS : S.count Lu + S.count Ln = S.count (S.set xs) + S.count (S.set ys) := S.count_add (S.set_canon xs) (S.set_canon ys) Q_u Q_n (fun p => by rw [S.set_has, S.set_has, ← Q_u.hs, M_u]) (fun p => by rw [S.set_has, S.set_has, ← Q_n.hs, M_n])
  have n_u := count_nn Lu
  rw [S.set_self Q_u] at n_u
  have n_n := count_nn Ln
  rw [S.set_self Q_n] at n_n
  have n_x := count_nn xs
  have n_y := count_nn ys
  obtain ⟨ku, eku⟩ : ∃ k, S.count Lu = k := ⟨_, rfl⟩
  obtain ⟨kn, ekn⟩ : ∃ k, S.count Ln = k := ⟨_, rfl⟩
  obtain ⟨kx, ekx⟩ : ∃ k, S.count (S.set xs) = k := ⟨_, rfl⟩
  obtain ⟨ky, eky⟩ : ∃ k, S.count (S.set ys) = k := ⟨_, rfl⟩
  have Cu : Hid (S.count (S.set Lu) = ku) := by show _ = _; rw [S.set_self Q_u, eku]
  have Cn : Hid (S.count (S.set Ln) = kn) := by show _ = _; rw [S.set_self Q_n, ekn]
  have Cx := hide ekx
  have Cy := hide eky
  rw [eku, ekn, ekx, eky] at HS
  rw [eku] at n_u
  rw [ekn] at n_n
  rw [ekx] at n_x
  rw [eky] at n_y
  have g1 : ((ku + kn) == (kx + ky)) = true := by simp [HS]
  have g2 : (wrap64 (ku + kn) == wrap64 (kx + ky)) = true := by simp [HS]
  clear HS eku ekn ekx eky M_u Q_u M_n Q_n M_s Q_s M_p Q_p M_q Q_q M_d Q_d M_f Q_f M_g Q_g M_i Q_i M_j Q_j M_m Q_m M_o Q_o M_r Q_r M_t Q_t M_v Q_v M_A Q_A M_B Q_B M_D Q_D M_G Q_G
  go_enter Try.func5, Try.ntmps5
  go_wp2_with fail
  refine (known_any w).mono ?_
  rintro e w1 ⟨rfl, hB⟩
  replace hx := hx.later hB
  replace hy := hy.later hB
  replace hz := hz.later hB
  go_wp2_with fail
  refine (union_any ao bo ca cb xs ys (by omega) w1 hx hy).mono ?_
  rintro e w2 ⟨ad_u, cp_u, rfl, hr_u, _, hb2⟩
  rw [Y_u.out] at hr_u ⊢
  replace hx := hx.later hb2
  replace hy := hy.later hb2
  replace hz := hz.later hb2
  replace hB := nx hB hb2
  clear hb2
  go_wp2_with fail
  refine (inter_any ao bo ca cb xs ys (by omega) (by omega) w2 hx hy).mono ?_
  rintro e w3 ⟨ad_n, cp_n, rfl, hr_n, _, hb3⟩
  rw [Y_n.out] at hr_n ⊢
  replace hx := hx.later hb3
  replace hy := hy.later hb3
  replace hz := hz.later hb3
  replace hr_u := hr_u.later hb3
  replace hB := nx hB hb3
  clear hb3
  go_wp2_with fail
  refine (union_any ao none ca 0 xs [] (by simp; omega) w3 hx (rdr_nil _ _)).mono ?_
  rintro e w4 ⟨ad_s, cp_s, rfl, hr_s, _, hb4⟩
  rw [Y_s.out] at hr_s ⊢
  replace hx := hx.later hb4
  replace hy := hy.later hb4
  replace hz := hz.later hb4
  replace hr_u := hr_u.later hb4
  replace hr_n := hr_n.later hb4
  replace hB := nx hB hb4
  clear hb4
  go_wp2_with fail
  refine (is_any ad_u cp_u Lu Ku (by omega) w4 hr_u).mono ?_
  rintro e w5 ⟨⟨b5, rfl, ht5⟩, hb5⟩
  obtain rfl : b5 = true := ht5.2 F5.out
  clear ht5
  replace hx := hx.later hb5
  replace hy := hy.later hb5
  replace hz := hz.later hb5
  replace hr_u := hr_u.later hb5
  replace hr_n := hr_n.later hb5
  replace hr_s := hr_s.later hb5
  replace hB := nx hB hb5
  clear hb5
  go_wp2_with fail
  refine (is_any ad_n cp_n Ln Kn (by omega) w5 hr_n).mono ?_
  rintro e w6 ⟨⟨b6, rfl, ht6⟩, hb6⟩
  obtain rfl : b6 = true := ht6.2 F6.out
  clear ht6
  replace hx := hx.later hb6
  replace hy := hy.later hb6
  replace hz := hz.later hb6
  replace hr_u := hr_u.later hb6
  replace hr_n := hr_n.later hb6
  replace hr_s := hr_s.later hb6
  replace hB := nx hB hb6
  clear hb6
  go_wp2_with fail
  refine (not_any ao ca xs (by omega) w6 hx).mono ?_
  rintro e w7 ⟨ad_p, cp_p, rfl, hr_p, _, hb7⟩
  rw [Y_p.out] at hr_p ⊢
  replace hx := hx.later hb7
  replace hy := hy.later hb7
  replace hz := hz.later hb7
  replace hr_u := hr_u.later hb7
  replace hr_n := hr_n.later hb7
  replace hr_s := hr_s.later hb7
  replace hB := nx hB hb7
  clear hb7
  go_wp2_with fail
  refine (not_any ad_p cp_p Lp (by omega) w7 hr_p).mono ?_
  rintro e w8 ⟨ad_q, cp_q, rfl, hr_q, _, hb8⟩
  rw [Y_q.out] at hr_q ⊢
  replace hx := hx.later hb8
  replace hy := hy.later hb8
  replace hz := hz.later hb8
  replace hr_u := hr_u.later hb8
  replace hr_n := hr_n.later hb8
  replace hr_s := hr_s.later hb8
  replace hr_p := hr_p.later hb8
  replace hB := nx hB hb8
  clear hb8
  go_wp2_with fail
  refine (same_any ad_q ad_s cp_q cp_s Lq Ls (by omega) (by omega) w8 hr_q hr_s).mono ?_
  rintro e w9 ⟨⟨b9, rfl, ht9⟩, hb9⟩
  obtain rfl : b9 = true := ht9.2 F9.out
  clear ht9
  replace hx := hx.later hb9
  replace hy := hy.later hb9
  replace hz := hz.later hb9
  replace hr_u := hr_u.later hb9
  replace hr_n := hr_n.later hb9
  replace hr_s := hr_s.later hb9
  replace hr_p := hr_p.later hb9
  replace hr_q := hr_q.later hb9
  replace hB := nx hB hb9
  clear hb9
  clear hr_p
  clear hr_q
  go_wp2_with fail
  refine (not_any ad_u cp_u Lu (by omega) w9 hr_u).mono ?_
  rintro e w10 ⟨ad_d, cp_d, rfl, hr_d, _, hb10⟩
  rw [Y_d.out] at hr_d ⊢
  replace hx := hx.later hb10
  replace hy := hy.later hb10
  replace hz := hz.later hb10
  replace hr_u := hr_u.later hb10
  replace hr_n := hr_n.later hb10
  replace hr_s := hr_s.later hb10
  replace hB := nx hB hb10
  clear hb10
  go_wp2_with fail
  refine (not_any ao ca xs (by omega) w10 hx).mono ?_
  rintro e w11 ⟨ad_f, cp_f, rfl, hr_f, _, hb11⟩
  rw [Y_f.out] at hr_f ⊢
  replace hx := hx.later hb11
  replace hy := hy.later hb11
  replace hz := hz.later hb11
  replace hr_u := hr_u.later hb11
  replace hr_n := hr_n.later hb11
  replace hr_s := hr_s.later hb11
  replace hr_d := hr_d.later hb11
  replace hB := nx hB hb11
  clear hb11
  go_wp2_with fail
  refine (not_any bo cb ys (by omega) w11 hy).mono ?_
  rintro e w12 ⟨ad_g, cp_g, rfl, hr_g, _, hb12⟩
  rw [Y_g.out] at hr_g ⊢
  replace hx := hx.later hb12
  replace hy := hy.later hb12
  replace hz := hz.later hb12
  replace hr_u := hr_u.later hb12
  replace hr_n := hr_n.later hb12
  replace hr_s := hr_s.later hb12
  replace hr_d := hr_d.later hb12
  replace hr_f := hr_f.later hb12
  replace hB := nx hB hb12
  clear hb12
  go_wp2_with fail
  refine (inter_any ad_f ad_g cp_f cp_g Lf Lg (by omega) (by omega) w12 hr_f hr_g).mono ?_
  rintro e w13 ⟨ad_i, cp_i, rfl, hr_i, _, hb13⟩
  rw [Y_i.out] at hr_i ⊢
  replace hx := hx.later hb13
  replace hy := hy.later hb13
  replace hz := hz.later hb13
  replace hr_u := hr_u.later hb13
  replace hr_n := hr_n.later hb13
  replace hr_s := hr_s.later hb13
  replace hr_d := hr_d.later hb13
  replace hr_f := hr_f.later hb13
  replace hr_g := hr_g.later hb13
  replace hB := nx hB hb13
  clear hb13
  go_wp2_with fail
  refine (same_any ad_d ad_i cp_d cp_i Ld Li (by omega) (by omega) w13 hr_d hr_i).mono ?_
  rintro e w14 ⟨⟨b14, rfl, ht14⟩, hb14⟩
  obtain rfl : b14 = true := ht14.2 F14.out
  clear ht14
  replace hx := hx.later hb14
  replace hy := hy.later hb14
  replace hz := hz.later hb14
  replace hr_u := hr_u.later hb14
  replace hr_n := hr_n.later hb14
  replace hr_s := hr_s.later hb14
  replace hr_d := hr_d.later hb14
  replace hr_f := hr_f.later hb14
  replace hr_g := hr_g.later hb14
  replace hr_i := hr_i.later hb14
  replace hB := nx hB hb14
  clear hb14
  clear hr_d
  clear hr_f
  clear hr_g
  clear hr_i
  go_wp2_with fail
  refine (union_any bo co cb cc ys zs (by omega) w14 hy hz).mono ?_
  rintro e w15 ⟨ad_j, cp_j, rfl, hr_j, _, hb15⟩
  rw [Y_j.out] at hr_j ⊢
  replace hx := hx.later hb15
  replace hy := hy.later hb15
  replace hz := hz.later hb15
  replace hr_u := hr_u.later hb15
  replace hr_n := hr_n.later hb15
  replace hr_s := hr_s.later hb15
  replace hB := nx hB hb15
  clear hb15
  go_wp2_with fail
  refine (inter_any ao ad_j ca cp_j xs Lj (by omega) (by omega) w15 hx hr_j).mono ?_
  rintro e w16 ⟨ad_m, cp_m, rfl, hr_m, _, hb16⟩
  rw [Y_m.out] at hr_m ⊢
  replace hx := hx.later hb16
  replace hy := hy.later hb16
  replace hz := hz.later hb16
  replace hr_u := hr_u.later hb16
  replace hr_n := hr_n.later hb16
  replace hr_s := hr_s.later hb16
  replace hr_j := hr_j.later hb16
  replace hB := nx hB hb16
  clear hb16
  go_wp2_with fail
  refine (inter_any ao co ca cc xs zs (by omega) (by omega) w16 hx hz).mono ?_
  rintro e w17 ⟨ad_o, cp_o, rfl, hr_o, _, hb17⟩
  rw [Y_o.out] at hr_o ⊢
  replace hx := hx.later hb17
  replace hy := hy.later hb17
  replace hz := hz.later hb17
  replace hr_u := hr_u.later hb17
  replace hr_n := hr_n.later hb17
  replace hr_s := hr_s.later hb17
  replace hr_j := hr_j.later hb17
  replace hr_m := hr_m.later hb17
  replace hB := nx hB hb17
  clear hb17
  go_wp2_with fail
  refine (union_any ad_n ad_o cp_n cp_o Ln Lo (by omega) w17 hr_n hr_o).mono ?_
  rintro e w18 ⟨ad_r, cp_r, rfl, hr_r, _, hb18⟩
  rw [Y_r.out] at hr_r ⊢
  replace hx := hx.later hb18
  replace hy := hy.later hb18
  replace hz := hz.later hb18
  replace hr_u := hr_u.later hb18
  replace hr_n := hr_n.later hb18
  replace hr_s := hr_s.later hb18
  replace hr_j := hr_j.later hb18
  replace hr_m := hr_m.later hb18
  replace hr_o := hr_o.later hb18
  replace hB := nx hB hb18
  clear hb18
  go_wp2_with fail
  refine (same_any ad_m ad_r cp_m cp_r Lm Lr (by omega) (by omega) w18 hr_m hr_r).mono ?_
  rintro e w19 ⟨⟨b19, rfl, ht19⟩, hb19⟩
  obtain rfl : b19 = true := ht19.2 F19.out
  clear ht19
  replace hx := hx.later hb19
  replace hy := hy.later hb19
  replace hz := hz.later hb19
  replace hr_u := hr_u.later hb19
  replace hr_n := hr_n.later hb19
  replace hr_s := hr_s.later hb19
  replace hr_j := hr_j.later hb19
  replace hr_m := hr_m.later hb19
  replace hr_o := hr_o.later hb19
  replace hr_r := hr_r.later hb19
  replace hB := nx hB hb19
  clear hb19
  clear hr_j
  clear hr_m
  clear hr_o
  clear hr_r
  go_wp2_with fail
  refine (count_any ad_u cp_u Lu (by omega) w19 hr_u).mono ?_
  rintro e w20 ⟨rfl, hb20⟩
  rw [Cu.out]
  replace hx := hx.later hb20
  replace hy := hy.later hb20
  replace hz := hz.later hb20
  replace hr_u := hr_u.later hb20
  replace hr_n := hr_n.later hb20
  replace hr_s := hr_s.later hb20
  replace hB := nx hB hb20
  clear hb20
  go_wp2_with fail
  refine (count_any ad_n cp_n Ln (by omega) w20 hr_n).mono ?_
  rintro e w21 ⟨rfl, hb21⟩
  rw [Cn.out]
  replace hx := hx.later hb21
  replace hy := hy.later hb21
  replace hz := hz.later hb21
  replace hr_u := hr_u.later hb21
  replace hr_n := hr_n.later hb21
  replace hr_s := hr_s.later hb21
  replace hB := nx hB hb21
  clear hb21
  go_wp2_with fail
  refine (count_any ao ca xs (by omega) w21 hx).mono ?_
  rintro e w22 ⟨rfl, hb22⟩
  rw [Cx.out]
  replace hx := hx.later hb22
  replace hy := hy.later hb22
  replace hz := hz.later hb22
  replace hr_u := hr_u.later hb22
  replace hr_n := hr_n.later hb22
  replace hr_s := hr_s.later hb22
  replace hB := nx hB hb22
  clear hb22
  go_wp2_with fail
  refine (count_any bo cb ys (by omega) w22 hy).mono ?_
  rintro e w23 ⟨rfl, hb23⟩
  rw [Cy.out]
  replace hx := hx.later hb23
  replace hy := hy.later hb23
  replace hz := hz.later hb23
  replace hr_u := hr_u.later hb23
  replace hr_n := hr_n.later hb23
  replace hr_s := hr_s.later hb23
  replace hB := nx hB hb23
  clear hb23
  go_wp2_with fail
  refine (minus_any ao bo ca cb xs ys (by omega) (by omega) w23 hx hy).mono ?_
  rintro e w24 ⟨ad_t, cp_t, rfl, hr_t, _, hb24⟩
  rw [Y_t.out] at hr_t ⊢
  replace hx := hx.later hb24
  replace hy := hy.later hb24
  replace hz := hz.later hb24
  replace hr_u := hr_u.later hb24
  replace hr_n := hr_n.later hb24
  replace hr_s := hr_s.later hb24
  replace hB := nx hB hb24
  clear hb24
  go_wp2_with fail
  refine (not_any bo cb ys (by omega) w24 hy).mono ?_
  rintro e w25 ⟨ad_v, cp_v, rfl, hr_v, _, hb25⟩
  rw [Y_v.out] at hr_v ⊢
  replace hx := hx.later hb25
  replace hy := hy.later hb25
  replace hz := hz.later hb25
  replace hr_u := hr_u.later hb25
  replace hr_n := hr_n.later hb25
  replace hr_s := hr_s.later hb25
  replace hr_t := hr_t.later hb25
  replace hB := nx hB hb25
  clear hb25
  go_wp2_with fail
  refine (inter_any ao ad_v ca cp_v xs Lv (by omega) (by omega) w25 hx hr_v).mono ?_
  rintro e w26 ⟨ad_A, cp_A, rfl, hr_A, _, hb26⟩
  rw [Y_A.out] at hr_A ⊢
  replace hx := hx.later hb26
  replace hy := hy.later hb26
  replace hz := hz.later hb26
  replace hr_u := hr_u.later hb26
  replace hr_n := hr_n.later hb26
  replace hr_s := hr_s.later hb26
  replace hr_t := hr_t.later hb26
  replace hr_v := hr_v.later hb26
  replace hB := nx hB hb26
  clear hb26
  go_wp2_with fail
  refine (same_any ad_t ad_A cp_t cp_A Lt LA (by omega) (by omega) w26 hr_t hr_A).mono ?_
  rintro e w27 ⟨⟨b27, rfl, ht27⟩, hb27⟩
  obtain rfl : b27 = true := ht27.2 F27.out
  clear ht27
  replace hx := hx.later hb27
  replace hy := hy.later hb27
  replace hz := hz.later hb27
  replace hr_u := hr_u.later hb27
  replace hr_n := hr_n.later hb27
  replace hr_s := hr_s.later hb27
  replace hr_t := hr_t.later hb27
  replace hr_v := hr_v.later hb27
  replace hr_A := hr_A.later hb27
  replace hB := nx hB hb27
  clear hb27
  clear hr_t
  clear hr_v
  clear hr_A
  go_wp2_with fail
  refine (minus_any ao bo ca cb xs ys (by omega) (by omega) w27 hx hy).mono ?_
  rintro e w28 ⟨ad_B, cp_B, rfl, hr_B, _, hb28⟩
  rw [Y_B.out] at hr_B ⊢
  replace hx := hx.later hb28
  replace hy := hy.later hb28
  replace hz := hz.later hb28
  replace hr_u := hr_u.later hb28
  replace hr_n := hr_n.later hb28
  replace hr_s := hr_s.later hb28
  replace hB := nx hB hb28
  clear hb28
  go_wp2_with fail
  refine (union_any ad_B ad_n cp_B cp_n LB Ln (by omega) w28 hr_B hr_n).mono ?_
  rintro e w29 ⟨ad_D, cp_D, rfl, hr_D, _, hb29⟩
  rw [Y_D.out] at hr_D ⊢
  replace hx := hx.later hb29
  replace hy := hy.later hb29
  replace hz := hz.later hb29
  replace hr_u := hr_u.later hb29
  replace hr_n := hr_n.later hb29
  replace hr_s := hr_s.later hb29
  replace hr_B := hr_B.later hb29
  replace hB := nx hB hb29
  clear hb29
  go_wp2_with fail
  refine (same_any ad_D ad_s cp_D cp_s LD Ls (by omega) (by omega) w29 hr_D hr_s).mono ?_
  rintro e w30 ⟨⟨b30, rfl, ht30⟩, hb30⟩
  obtain rfl : b30 = true := ht30.2 F30.out
  clear ht30
  replace hx := hx.later hb30
  replace hy := hy.later hb30
  replace hz := hz.later hb30
  replace hr_u := hr_u.later hb30
  replace hr_n := hr_n.later hb30
  replace hr_s := hr_s.later hb30
  replace hr_B := hr_B.later hb30
  replace hr_D := hr_D.later hb30
  replace hB := nx hB hb30
  clear hb30
  clear hr_B
  clear hr_D
  go_wp2_with fail
  refine (union_any bo ao cb ca ys xs (by omega) w30 hy hx).mono ?_
  rintro e w31 ⟨ad_G, cp_G, rfl, hr_G, _, hb31⟩
  rw [Y_G.out] at hr_G ⊢
  replace hx := hx.later hb31
  replace hy := hy.later hb31
  replace hz := hz.later hb31
  replace hr_u := hr_u.later hb31
  replace hr_n := hr_n.later hb31
  replace hr_s := hr_s.later hb31
  replace hB := nx hB hb31
  clear hb31
  go_wp2_with fail
  refine (same_any ad_u ad_G cp_u cp_G Lu LG (by omega) (by omega) w31 hr_u hr_G).mono ?_
  rintro e w32 ⟨⟨b32, rfl, ht32⟩, hb32⟩
  obtain rfl : b32 = true := ht32.2 F32.out
  clear ht32
  replace hx := hx.later hb32
  replace hy := hy.later hb32
  replace hz := hz.later hb32
  replace hr_u := hr_u.later hb32
  replace hr_n := hr_n.later hb32
  replace hr_s := hr_s.later hb32
  replace hr_G := hr_G.later hb32
  replace hB := nx hB hb32
  clear hb32
  clear hr_G
  go_wp2
  go_ret
  exact ⟨rfl, hB⟩
end Go.Proofs.Ytenheagfijocjaa
