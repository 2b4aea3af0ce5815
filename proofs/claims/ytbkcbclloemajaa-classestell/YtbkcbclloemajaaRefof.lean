/- The reference's set of a list: a filter, an insertion sort in a row of its own, a joining loop. -/
import Derived.Test.YtbkcbclloemajaaFaceb
import Derived.BigQuiet
namespace Go.Proofs.Ytbkcbclloemajaa
open Go.RowKit Go.Shelf

/-- In the order of their first numbers. -/
def Srt (l : List S.R) : Prop := l.Pairwise fun a b => a.1 ≤ b.1
theorem sl_one (x : S.R) : Srt [x] := List.pairwise_singleton _ _
theorem sl_in_first {x : S.R} {Q : List S.R} (h : Srt ([] ++ Q)) (hx : ∀ q ∈ Q, x.1 ≤ q.1) : Srt ([] ++ x :: Q) := List.pairwise_cons.2 ⟨hx, h⟩
theorem sl_in {P : List S.R} {x y : S.R} {Q : List S.R} (h : Srt (P ++ [y] ++ Q)) (hx : ∀ q ∈ Q, x.1 ≤ q.1) (hy : y.1 ≤ x.1) : Srt (P ++ [y] ++ x :: Q) := by
  obtain ⟨h1, h2, h3⟩ := List.pairwise_append.1 h
  refine List.pairwise_append.2 ⟨h1, List.pairwise_cons.2 ⟨hx, h2⟩, fun a ha b hb => ?_⟩
  rcases List.mem_cons.1 hb with rfl | hb
  · rcases List.mem_append.1 ha with ha | ha
    · have := (List.pairwise_append.1 h1).2.2 a ha y (by simp)
      omega
    · obtain rfl : a = y := by simpa using ha
      exact hy
  · exact h3 a ha b hb
theorem sl_step {P : List S.R} {y : S.R} {Q : List S.R} (h : Srt (P ++ [y] ++ Q)) : Srt (P ++ y :: Q) := by simpa using h
theorem perm_step {P Q R gs : List S.R} {x y : S.R} (h : (P ++ [y] ++ x :: Q ++ R).Perm gs) : (P ++ x :: y :: Q ++ R).Perm gs := by
  refine List.Perm.trans ?_ h
  simp only [List.append_assoc, List.cons_append, List.nil_append]
  exact List.Perm.append_left P (List.Perm.swap y x _)

/-- A row of the call's own that has a range: where it lies. -/
theorem OwnR.at_some {w : World} {B : Nat} {e : TypeId} {ao : Option Addr} {n c : Nat} {d : List S.R} (h : OwnR w B e (.slice ao n c) d) (hd : 0 < d.length) : ∃ g, ao = some ⟨g, 0, none⟩ ∧ B ≤ g ∧ (∀ i, w.frozen? ⟨g, i, none⟩ = false) ∧ RdR w (some ⟨g, 0, none⟩) d := by
  have hb := h.block
  obtain ⟨a', c', e', _, _, hr⟩ := h.rd
  obtain ⟨_, h2 | ⟨g', cap', cur, e2, h3, hg, _⟩⟩ := h
  · omega
  · cases e2
    cases e'
    exact ⟨g', rfl, h3, fun i => by simp [World.frozen?, hg], hr⟩
theorem OwnR.rdr {w : World} {B : Nat} {e : TypeId} {ao : Option Addr} {n c : Nat} {d : List S.R} (h : OwnR w B e (.slice ao n c) d) : RdR w ao d := by
  obtain ⟨a', c', e', _, _, hr⟩ := h.rd
  cases e'
  exact hr
theorem own_setR {w : World} {B : Nat} {e : TypeId} {g n cap len : Nat} {vs : List Value} (i : Nat) (u : Value) (h : w.ownsRow B e 2 (.slice (some ⟨g, 0, none⟩) n cap) len vs) :
    (w.setCell ⟨g, i, none⟩ u).ownsRow B e 2 (.slice (some ⟨g, 0, none⟩) n cap) len (vs.set i u) := by
  obtain ⟨h1, h2 | ⟨g', cap', cur, e', h3, hg, h4, h5, h6, h7⟩⟩ := h
  · cases h2.1
  · cases e'
    refine ⟨by rw [List.length_set]; exact h1, .inr ⟨g, cap, cur.setIfInBounds i u, rfl, h3, ?_, h4, h5, by simpa using h6, ?_⟩⟩
    · rw [Sort.setCell_eq]
      unfold Sort.mapBlock
      rw [Array.getElem?_modify, if_pos rfl, hg]
      rfl
    · rw [Array.toList_setIfInBounds, List.take_set, h7]
theorem cR_swap (x y : S.R) (R : List S.R) : ∀ P : List S.R, (((((cR (P ++ y :: x :: R)).set ((P.length + 1) * 2) (.int .i32 y.1)).set ((P.length + 1) * 2 + 1) (.int .i32 y.2)).set (P.length * 2) (.int .i32 x.1)).set (P.length * 2 + 1) (.int .i32 x.2)) = cR (P ++ x :: y :: R)
  | [] => rfl
  | p :: P => by
    have ih := cR_swap x y R P
    rw [List.cons_append, List.cons_append, cR_cons, cR_cons, List.length_cons]
    rw [show (P.length + 1 + 1) * 2 = (P.length + 1) * 2 + 1 + 1 by omega, show (P.length + 1) * 2 + 1 + 1 + 1 = ((P.length + 1) * 2 + 1) + 1 + 1 by omega]
    rw [show (P.length + 1) * 2 + 1 + 1 = ((P.length + 1) * 2) + 1 + 1 by omega]
    simp only [List.set_cons_succ]
    rw [show (P.length + 1) * 2 + 1 = P.length * 2 + 1 + 1 + 1 by omega, show (P.length + 1) * 2 = P.length * 2 + 1 + 1 by omega]
    simp only [List.set_cons_succ]
    rw [show (P.length + 1) * 2 + 1 = P.length * 2 + 1 + 1 + 1 by omega, show (P.length + 1) * 2 = P.length * 2 + 1 + 1 by omega] at ih
    rw [ih]
/-- Two ranges beside one another change places. -/
theorem OwnR.swap {w : World} {B : Nat} {e : TypeId} {g n cap j : Nat} {P R : List S.R} {x1 x2 y1 y2 : Int} (h : OwnR w B e (.slice (some ⟨g, 0, none⟩) n cap) (P ++ (y1, y2) :: (x1, x2) :: R)) (hj : P.length = j - 1) (h0 : 0 < j) :
    OwnR ((((w.setCell ⟨g, j * 2, none⟩ (.int .i32 y1)).setCell ⟨g, j * 2 + 1, none⟩ (.int .i32 y2)).setCell ⟨g, (j - 1) * 2, none⟩ (.int .i32 x1)).setCell ⟨g, (j - 1) * 2 + 1, none⟩ (.int .i32 x2)) B e (.slice (some ⟨g, 0, none⟩) n cap) (P ++ (x1, x2) :: (y1, y2) :: R) := by
  obtain ⟨k, rfl⟩ : ∃ k, j = k + 1 := ⟨j - 1, by omega⟩
  rw [Nat.add_sub_cancel] at hj ⊢
  subst hj
  have h4 := own_setR (P.length * 2 + 1) (.int .i32 x2) (own_setR (P.length * 2) (.int .i32 x1) (own_setR ((P.length + 1) * 2 + 1) (.int .i32 y2) (own_setR ((P.length + 1) * 2) (.int .i32 y1) h)))
  have hc := cR_swap (x1, x2) (y1, y2) R P
  simp only at hc
  rw [hc] at h4
  unfold OwnR
  rw [show (P ++ (x1, x2) :: (y1, y2) :: R).length = (P ++ (y1, y2) :: (x1, x2) :: R).length by simp]
  exact h4
theorem goods_snoc (xs : List S.R) (k : Nat) (h : k < xs.length) : S.goods (xs.take (k + 1)) = S.goods (xs.take k) ++ if S.good xs[k] = true then [xs[k]] else [] := by
  rw [← List.take_append_getElem h, S.goods_append]
  congr 1
  by_cases hg : S.good xs[k] = true
  · simp [S.goods, hg]
  · simp [S.goods, hg]
theorem goods_length (xs : List S.R) : (S.goods xs).length ≤ xs.length := List.length_filter_le _ _

set_option maxRecDepth 100000 in
set_option maxHeartbeats 4000000 in
theorem refOf_own (ao : Option Addr) (ca : Nat) (xs : List S.R) (hl : xs.length ≤ 400000) (w : World) (h : RdR w ao xs) :
    Calls Try.prog 26 #[.slice ao xs.length ca] w fun e W' => ∃ u, e = .returned u ∧ OwnR W' w.heap.size 48 u (S.set xs) ∧ Below w.heap.size w W' := by
  go_enter Try.func26, Try.ntmps26
  go_wp2
  go_loopw [3, 4] (fun v p wr => ∃ k : Nat, p = .int .i64 (k : Int) ∧ k ≤ xs.length ∧ OwnR wr w.heap.size 48 v (S.goods (xs.take k)) ∧ Below w.heap.size w wr) (fun _ p _ => xs.length - (intOf p).toNat)
  case atStart => exact ⟨0, rfl, Nat.zero_le _, ownR_nil _ _ _, Below.refl _ _⟩
  case round =>
    obtain ⟨k, rfl, hk, ho, hB⟩ := hrel
    by_cases hlt : k < xs.length
    · obtain ⟨b, off, rfl, hd1, hd2⟩ := (h.later hB) k hlt
      have HS := hide (goods_snoc xs k hlt)
      have hgl := goods_length (xs.take k)
      rw [List.length_take] at hgl
      generalize xs[k] = s at *
      obtain ⟨s1, s2⟩ := s
      simp only at hd1 hd2
      have hgood := refGood_any s1 s2
      obtain ⟨gx, hgx⟩ : ∃ gx, S.good (s1, s2) = gx := ⟨_, rfl⟩
      rw [hgx] at hgood HS
      clear hgx
      cases gx with
      | false =>
        simp only [Bool.false_eq_true, if_false, List.append_nil] at HS
        go_wp2_with fail
        refine (hgood wr).mono ?_
        rintro e w2 ⟨rfl, hb2⟩
        clear hgood
        go_wp2
        go_roundw
        case rel => exact ⟨k + 1, by go_num, by omega, by rw [HS.out]; exact ho.later hb2, nx hB hb2⟩
        case measure => simp [intOf]; omega
      | true =>
        simp only [if_true] at HS
        go_wp2_with fail
        refine (hgood wr).mono ?_
        rintro e w2 ⟨rfl, hb2⟩
        clear hgood
        replace hd1 := cell_later hb2 hd1
        replace hd2 := cell_later hb2 hd2
        replace ho := ho.later hb2
        replace hB := nx hB hb2
        go_wp2_with (at_builtin; refine wpl_appR Try.underlying35 info34 rfl _ _ rfl w.heap.size _ (S.goods (xs.take k)) (some ⟨w2.heap.size, 0, none⟩) [(s1, s2)] 1 1 rfl rfl rfl (OwnR.later ho (al1 _ _)) (by have := hB.size; simp at this ⊢; omega) (rdr_new _ s1 s2 _) (fun e => by cases e) (by simp; omega) ?_; intro v' w5 hown' hb5 hgr5)
        go_roundw
        case rel => exact ⟨k + 1, by go_num, by omega, by rw [HS.out]; exact hown', (nx hB (al1 _ _)).trans hb5⟩
        case measure => simp [intOf]; omega
    · obtain rfl : k = xs.length := by omega
      rw [List.take_length] at ho
      have hgl := goods_length xs
      have hgg : ∀ r ∈ S.goods xs, S.good r = true := fun r hr => S.goods_good hr
      have HS : Hid (∀ zs, S.Canon zs → (∀ p, S.has zs p ↔ S.has (S.goods xs) p) → zs = S.set xs) := hide fun zs hz hp => S.set_eq hz hp
      have HL := hide (S.set_length xs)
      generalize S.goods xs = gs at *
      obtain ⟨av, cv, rfl, hcv, hnv, hrv⟩ := ho.rd
      clear h hlt hk hrv
      go_wp2
      go_loopw [5] (fun p ws => ∃ (i : Nat) (D rest : List S.R), p = .int .i64 (i : Int) ∧ (D.length = i ∨ (D = [] ∧ rest = [] ∧ i = 1)) ∧ OwnR ws w.heap.size 48 (.slice av gs.length cv) (D ++ rest) ∧ (D ++ rest).Perm gs ∧ Srt D ∧ Below w.heap.size w ws) (fun p _ => gs.length - (intOf p).toNat)
      case atStart =>
        cases gs with
        | nil => exact ⟨1, [], [], rfl, .inr ⟨rfl, rfl, rfl⟩, ho, .refl _, List.Pairwise.nil, hB⟩
        | cons x gs => exact ⟨1, [x], gs, rfl, .inl rfl, ho, .refl _, sl_one x, hB⟩
      case round =>
        obtain ⟨i, D, rest, rfl, hi, ho, hP, hS, hB⟩ := hrel
        have hln := hP.length_eq
        rw [List.length_append] at hln
        by_cases hlt : i < gs.length
        · have hi' : D.length = i := by
            rcases hi with hi | ⟨rfl, rfl, _⟩
            · exact hi
            · simp at hln; omega
          clear hi
          cases rest with
          | nil => simp at hln; omega
          | cons x rest =>
          have hlr : rest.length + i + 1 = gs.length := by simp at hln; omega
          clear hln
          go_wp2
          go_loopw [6] (fun p wq => ∃ (j : Nat) (P : List S.R) (x : S.R) (Q : List S.R), p = .int .i64 (j : Int) ∧ P.length = j ∧ P.length + Q.length = i ∧ OwnR wq w.heap.size 48 (.slice av gs.length cv) (P ++ x :: Q ++ rest) ∧ (P ++ x :: Q ++ rest).Perm gs ∧ Srt (P ++ Q) ∧ (∀ q ∈ Q, x.1 ≤ q.1) ∧ Below w.heap.size w wq) (fun p _ => (intOf p).toNat)
          case atStart => exact ⟨i, D, x, [], rfl, hi', by simp [hi'], by simpa using ho, by simpa using hP, by simpa using hS, (fun q hq => by cases hq), hB⟩
          case round =>
            obtain ⟨j, P, x, Q, rfl, hj, hij, ho, hP, hS, hx, hB⟩ := hrel
            obtain ⟨g, hav, hbg, hfz, hrd⟩ := ho.at_some (by simp; omega)
            cases hav
            obtain ⟨_, _, e0, cx1, cx2⟩ := hrd j (by simp; omega)
            cases e0
            rw [Nat.zero_add] at cx1 cx2
            have ex : (P ++ x :: Q ++ rest)[j]'(by simp; omega) = x := by
              subst hj
              simp
            rw [ex] at cx1 cx2
            clear ex
            rcases P.eq_nil_or_concat with rfl | ⟨P', y, rfl⟩
            · obtain rfl : j = 0 := by simpa using hj.symm
              have HF := hide (sl_in_first hS hx)
              have hQi : Q.length = i := by simpa using hij
              have HP2 := hide hP
              clear hj hij hS hx hP hrd hfz cx1 cx2
              go_wp2_with fail
              go_quiet (fail)
              replace hB := below_drewN hB nq
              replace ho := ho.later (below_drewN (Below.refl _ _) nq)
              generalize wr.drewN nq = wq at *
              go_wp2
              go_roundw
              case rel => exact ⟨i + 1, x :: Q, rest, by go_num, .inl (by simp [hQi]), by simpa using ho, by simpa using HP2.out, HF.out, hB⟩
              case measure => simp [intOf]; omega
            · rw [List.concat_eq_append] at *
              have hj1 : 0 < j := by rw [← hj]; simp
              have hjl : P'.length = j - 1 := by simp at hj; omega
              obtain ⟨_, _, e0, cy1, cy2⟩ := hrd (j - 1) (by simp; omega)
              cases e0
              rw [Nat.zero_add] at cy1 cy2
              have ey : (P' ++ [y] ++ x :: Q ++ rest)[j - 1]'(by simp; omega) = y := by
                have : j - 1 = P'.length := hjl.symm
                simp [this]
              rw [ey] at cy1 cy2
              clear ey
              obtain ⟨x1, x2⟩ := x
              obtain ⟨y1, y2⟩ := y
              simp only at cx1 cx2 cy1 cy2
              have HJ := hide hjl
              have HIJ := hide hij
              have HP2 := hide hP
              have HX := hide hx
              have HS2 := hide hS
              have hjg : j < gs.length := by simp at hij; omega
              clear hjl hij hP hx hj hrd hS
              by_cases hlt2 : x1 < y1
              · have hd : decide (x1 < y1) = true := by simpa using hlt2
                go_wp2_with fail
                go_quiet (fail)
                replace hB := below_drewN hB nq
                replace ho := ho.later (below_drewN (Below.refl _ _) nq)
                have c1 : (wr.drewN nq).cell? ⟨g, j * 2, none⟩ = some (.int .i32 x1) := cx1
                have c2 : (wr.drewN nq).cell? ⟨g, j * 2 + 1, none⟩ = some (.int .i32 x2) := cx2
                have c3 : (wr.drewN nq).cell? ⟨g, (j - 1) * 2, none⟩ = some (.int .i32 y1) := cy1
                have c4 : (wr.drewN nq).cell? ⟨g, (j - 1) * 2 + 1, none⟩ = some (.int .i32 y2) := cy2
                have f1 : (wr.drewN nq).frozen? ⟨g, j * 2, none⟩ = false := hfz _
                have f2 : (wr.drewN nq).frozen? ⟨g, j * 2 + 1, none⟩ = false := hfz _
                have f3 : (wr.drewN nq).frozen? ⟨g, (j - 1) * 2, none⟩ = false := hfz _
                have f4 : (wr.drewN nq).frozen? ⟨g, (j - 1) * 2 + 1, none⟩ = false := hfz _
                clear cx1 cx2 cy1 cy2 hfz
                generalize wr.drewN nq = wq at *
                go_wp2_with fail
                go_region
                have ho' : OwnR wq w.heap.size 48 (.slice (some ⟨g, 0, none⟩) gs.length cv) (P' ++ (y1, y2) :: (x1, x2) :: (Q ++ rest)) := by simpa using ho
                have ho2 := (ho'.swap HJ.out hj1).later (w' := ((((wq.setCell ⟨g, j * 2, none⟩ (.int .i32 y1)).setCell ⟨g, j * 2 + 1, none⟩ (.int .i32 y2)).setCell ⟨g, (j - 1) * 2, none⟩ (.int .i32 x1)).setCell ⟨g, (j - 1) * 2 + 1, none⟩ (.int .i32 x2)).drew) (Below.refl _ _).drew
                have hB2 : Below w.heap.size w ((((wq.setCell ⟨g, j * 2, none⟩ (.int .i32 y1)).setCell ⟨g, j * 2 + 1, none⟩ (.int .i32 y2)).setCell ⟨g, (j - 1) * 2, none⟩ (.int .i32 x1)).setCell ⟨g, (j - 1) * 2 + 1, none⟩ (.int .i32 x2)).drew := ((((hB.setCell (p := ⟨g, j * 2, none⟩) hbg _).setCell (p := ⟨g, j * 2 + 1, none⟩) hbg _).setCell (p := ⟨g, (j - 1) * 2, none⟩) hbg _).setCell (p := ⟨g, (j - 1) * 2 + 1, none⟩) hbg _).drew
                clear c1 c2 c3 c4 f1 f2 f3 f4 ho ho' hB
                generalize ((((wq.setCell ⟨g, j * 2, none⟩ (.int .i32 y1)).setCell ⟨g, j * 2 + 1, none⟩ (.int .i32 y2)).setCell ⟨g, (j - 1) * 2, none⟩ (.int .i32 x1)).setCell ⟨g, (j - 1) * 2 + 1, none⟩ (.int .i32 x2)).drew = wn at *
                go_wp2
                go_roundw
                case rel => exact ⟨j - 1, P', (x1, x2), (y1, y2) :: Q, by go_num, HJ.out, by have := HIJ.out; simp at this ⊢; omega, by simpa using ho2, perm_step HP2.out, sl_step HS2.out, (fun q hq => by rcases List.mem_cons.1 hq with rfl | hq; exact Int.le_of_lt hlt2; exact HX.out q hq), hB2⟩
                case measure => simp [intOf]; omega
              · have hd : decide (x1 < y1) = false := by simpa using hlt2
                have hle : y1 ≤ x1 := by omega
                have HF := hide (sl_in HS2.out HX.out hle)
                have hQi : P'.length + Q.length + 1 = i := by have := HIJ.out; simp at this; omega
                go_wp2_with fail
                go_quiet (fail)
                replace hB := below_drewN hB nq
                replace ho := ho.later (below_drewN (Below.refl _ _) nq)
                clear cx1 cx2 cy1 cy2 hfz HS2 HX HIJ
                generalize wr.drewN nq = wq at *
                go_wp2
                go_roundw
                case rel => exact ⟨i + 1, P' ++ [(y1, y2)] ++ (x1, x2) :: Q, rest, by go_num, .inl (by simp; omega), ho, HP2.out, HF.out, hB⟩
                case measure => simp [intOf]; omega
        · have hrl : rest = [] := by
            rcases hi with hi | ⟨_, h2, _⟩
            · exact List.eq_nil_of_length_eq_zero (by omega)
            · exact h2
          subst hrl
          rw [List.append_nil] at ho hP
          have hdl := hP.length_eq
          have hgd : ∀ r ∈ D, S.good r = true := fun r hr => hgg r (hP.mem_iff.1 hr)
          have hrd := ho.rdr
          have HP := hide hP
          have HD := hide hdl
          have hS' := hide hS
          clear hi hln hP hgg hcv hnv hdl ho hS
          have hlt' : gs.length ≤ i := by omega
          clear hlt
          have hd1 : decide ((i : Int) < (gs.length : Int)) = false := by simp; omega
          have hd2 : decide (i < gs.length) = false := by simp; omega
          go_wp2
          clear hd1 hd2
          go_loopw [7, 8] (fun v p wt => ∃ (k : Nat) (out : List S.R), p = .int .i64 (k : Int) ∧ k ≤ gs.length ∧ OwnR wt wr.heap.size 48 v out ∧ S.Glued (D.take k) out ∧ out.length ≤ k ∧ Below wr.heap.size wr wt) (fun _ p _ => gs.length - (intOf p).toNat)
          case atStart => exact ⟨0, [], rfl, Nat.zero_le _, ownR_nil _ _ _, S.glued_nil, Nat.le_refl _, Below.refl _ _⟩
          case round =>
            rename World => wt
            obtain ⟨k, out, rfl, hk, hor, hG, hol, hBt⟩ := hrel
            by_cases hlt : k < gs.length
            · have hltD : k < D.length := by rw [HD.out]; exact hlt
              obtain ⟨b, off, rfl, hc1, hc2⟩ := (hrd.later hBt) k hltD
              have HT : Hid (D.take (k + 1) = D.take k ++ [D[k]]) := List.take_succ_eq_append_getElem hltD
              have hgk := hgd _ (List.getElem_mem hltD)
              have hlow : ∀ r ∈ D.take k, r.1 ≤ D[k].1 := by
                intro r hr
                obtain ⟨i', hi', rfl⟩ := List.mem_iff_getElem.1 hr
                rw [List.length_take] at hi'
                rw [List.getElem_take]
                exact (List.pairwise_iff_getElem.1 hS'.out) i' k (by omega) hltD (by omega)
              have hst := hide (hG.step hgk hlow)
              rw [← HT.out] at hst
              have hgk2 := (S.good_iff _).1 hgk
              generalize D[k] = s at *
              obtain ⟨s1, s2⟩ := s
              simp only at hgk2 hc1 hc2
              obtain ⟨av2, cv2, rfl, hcv2, hnv2, hrv2⟩ := hor.rd
              rcases out.eq_nil_or_concat with rfl | ⟨o, z, rfl⟩
              · rw [glue_nil] at hst
                clear hrv2 hG hlow HT hgd hgk hrd
                simp only [List.length_nil] at hcv2 ⊢
                go_wp2_with fail
                go_quiet (fail)
                replace hBt := below_drewN hBt nq
                replace hor := hor.later (below_drewN (Below.refl _ _) nq)
                have c1 : (wt.drewN nq).cell? ⟨b, off + k * 2, none⟩ = some (.int .i32 s1) := hc1
                have c2 : (wt.drewN nq).cell? ⟨b, off + k * 2 + 1, none⟩ = some (.int .i32 s2) := hc2
                clear hc1 hc2
                generalize wt.drewN nq = wq at *
                go_wp2_with (at_builtin; refine wpl_appR Try.underlying35 info34 rfl _ _ rfl wr.heap.size _ [] (some ⟨wq.heap.size, 0, none⟩) [(s1, s2)] 1 1 rfl rfl rfl (OwnR.later hor (al1 _ _)) (by have := hBt.size; simp at this ⊢; omega) (rdr_new _ s1 s2 _) (fun e => by cases e) (by simp) ?_; intro v' w5 hown' hb5 hgr5)
                rw [List.nil_append] at hown'
                go_roundw
                case rel => exact ⟨k + 1, _, by go_num, by omega, hown', hst.out, by simp, (nx hBt (al1 _ _)).trans hb5⟩
                case measure => simp [intOf]; omega
              · rw [List.concat_eq_append] at *
                have hgz := (S.good_iff z).1 (hG.canon.good z (by simp))
                obtain ⟨b2, hav2, hbb2, _, _⟩ := hor.at_some (by simp)
                cases hav2
                have hlast := hor.at_last
                obtain ⟨z1, z2⟩ := z
                simp only at hgz hlast
                clear hrv2 hG hlow HT hgd hgk hrd
                obtain ⟨_, _, hz1, hz2, hfz⟩ := hlast
                obtain ⟨n, hn⟩ : ∃ n, (o ++ [(z1, z2)]).length = n := ⟨_, rfl⟩
                have hn0 : 0 < n := by rw [← hn]; simp
                have hn1 : o.length = n - 1 := by rw [← hn]; simp
                rw [hn] at hcv2 hol ⊢
                rw [hn1] at hz2 hfz
                have hoN : OwnR wt wr.heap.size 48 (.slice (some ⟨b2, 0, none⟩) n cv2) (o ++ [(z1, z2)]) := by rw [← hn]; exact hor
                have hnk : n ≤ gs.length := by omega
                have HN := hide hn
                have HN1 := hide hn1
                clear hn hn1 hor hz1
                by_cases hlt2 : z2 + 1 < s1
                · have HG : Hid (S.Glued (List.take (k + 1) D) (o ++ [(z1, z2)] ++ [(s1, s2)])) := by
                    have := hst.out
                    rw [glue_apart o (z1, z2) (s1, s2) hlt2] at this
                    exact this
                  have hd : decide (s1 ≤ z2 + 1) = false := by simp; omega
                  clear hst
                  go_wp2_with fail
                  go_quiet (fail)
                  replace hBt := below_drewN hBt nq
                  replace hoN := hoN.later (below_drewN (Below.refl _ _) nq)
                  have c1 : (wt.drewN nq).cell? ⟨b, off + k * 2, none⟩ = some (.int .i32 s1) := hc1
                  have c2 : (wt.drewN nq).cell? ⟨b, off + k * 2 + 1, none⟩ = some (.int .i32 s2) := hc2
                  clear hc1 hc2 hz2 hfz
                  generalize wt.drewN nq = wq at *
                  go_wp2_with (at_builtin; refine wpl_appR Try.underlying35 info34 rfl _ _ rfl wr.heap.size _ (o ++ [(z1, z2)]) (some ⟨wq.heap.size, 0, none⟩) [(s1, s2)] 1 1 rfl rfl rfl (OwnR.later hoN (al1 _ _)) (by have := hBt.size; simp at this ⊢; omega) (rdr_new _ s1 s2 _) (fun e => by cases e) (by rw [HN.out]; simp; omega) ?_; intro v' w5 hown' hb5 hgr5)
                  go_roundw
                  case rel => exact ⟨k + 1, _, by go_num, by omega, hown', HG.out, by rw [List.length_append, HN.out]; simp; omega, (nx hBt (al1 _ _)).trans hb5⟩
                  case measure => simp [intOf]; omega
                · have HG : Hid (S.Glued (List.take (k + 1) D) (o ++ [(z1, max z2 s2)])) := by
                    have := hst.out
                    rw [glue_join o (z1, z2) (s1, s2) hlt2] at this
                    exact this
                  have hd : decide (s1 ≤ z2 + 1) = true := by simp; omega
                  have hle : s1 ≤ z2 + 1 := by omega
                  clear hst hlt2
                  go_wp2_with fail
                  go_quiet (fail)
                  replace hBt := below_drewN hBt nq
                  replace hoN := hoN.later (below_drewN (Below.refl _ _) nq)
                  have c1 : (wt.drewN nq).cell? ⟨b, off + k * 2, none⟩ = some (.int .i32 s1) := hc1
                  have c2 : (wt.drewN nq).cell? ⟨b, off + k * 2 + 1, none⟩ = some (.int .i32 s2) := hc2
                  have c3 : (wt.drewN nq).cell? ⟨b2, (n - 1) * 2 + 1, none⟩ = some (.int .i32 z2) := hz2
                  have c4 : (wt.drewN nq).frozen? ⟨b2, (n - 1) * 2 + 1, none⟩ = false := hfz
                  clear hc1 hc2 hz2 hfz
                  generalize wt.drewN nq = wq at *
                  have hmx : (if z2 < s2 then s2 else z2) = max z2 s2 := by omega
                  have hnew := hoN.set_last (max z2 s2)
                  rw [HN1.out] at hnew
                  go_wp2_with fail
                  go_region
                  have hnw : OwnR (wq.setCell ⟨b2, (n - 1) * 2 + 1, none⟩ (.int .i32 (max z2 s2))).drew wr.heap.size 48 (.slice (some ⟨b2, 0, none⟩) n cv2) (o ++ [(z1, max z2 s2)]) := hnew
                  have hBn : Below wr.heap.size wr (wq.setCell ⟨b2, (n - 1) * 2 + 1, none⟩ (.int .i32 (max z2 s2))).drew := (hBt.setCell (p := ⟨b2, (n - 1) * 2 + 1, none⟩) hbb2 _).drew
                  clear hnew c1 c2 c3 c4 hoN
                  generalize (wq.setCell ⟨b2, (n - 1) * 2 + 1, none⟩ (.int .i32 (max z2 s2))).drew = wn at *
                  go_wp2
                  go_roundw
                  case rel => exact ⟨k + 1, _, by go_num, by omega, hnw, HG.out, by rw [List.length_append, HN1.out]; simp; omega, hBn⟩
                  case measure => simp [intOf]; omega
            · obtain rfl : k = gs.length := by omega
              rw [← HD.out, List.take_length] at hG
              go_wp2
              go_ret
              have e := HS.out out hG.canon (fun p => by rw [hG.mem, S.has_perm HP.out])
              rw [← e]
              exact ⟨_, rfl, hor.base hB.size, nx hB hBt⟩
theorem refOf_any (ao : Option Addr) (ca : Nat) (xs : List S.R) (hl : xs.length ≤ 400000) (w : World) (h : RdR w ao xs) :
    Calls Try.prog 26 #[.slice ao xs.length ca] w (Res w (S.set xs)) := by
  refine (refOf_own ao ca xs hl w h).mono ?_
  rintro e W' ⟨u, rfl, ho, hb⟩
  exact ho.res hb
end Go.Proofs.Ytbkcbclloemajaa
