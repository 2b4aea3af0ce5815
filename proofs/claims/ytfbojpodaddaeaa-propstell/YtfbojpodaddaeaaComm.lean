/- The iterator over what two sets both have. -/
import Derived.Test.YtfbojpodaddaeaaGood
import Derived.Sort.QuietIn
namespace Go.Proofs.Ytfbojpodaddaeaa
open Go.RowKit Go.Shelf
attribute [local go_sem] Oper.semAt_some

/-- What the iterator reads: two boxes, two slices. -/
structure SC (B1 B2 : Nat) (ao bo : Option Addr) (ca cb : Nat) (xs ys : List S.R) (W : World) : Prop where
  box1 : W.cell? ⟨B1, 0, none⟩ = some (.slice ao xs.length ca)
  box2 : W.cell? ⟨B2, 0, none⟩ = some (.slice bo ys.length cb)
  rd1 : RdR W ao xs
  rd2 : RdR W bo ys
theorem SC.later {B1 B2 : Nat} {ao bo : Option Addr} {ca cb : Nat} {xs ys : List S.R} {W W' : World} (h : SC B1 B2 ao bo ca cb xs ys W) (hb : Below W.heap.size W W') : SC B1 B2 ao bo ca cb xs ys W' :=
  ⟨cell_later hb h.box1, cell_later hb h.box2, h.rd1.later hb, h.rd2.later hb⟩
theorem SC.under {B1 B2 n0 : Nat} {ao bo : Option Addr} {ca cb : Nat} {xs ys : List S.R} {A B : World} (h1 : B1 < n0) (h2 : B2 < n0) (hlo : Lo n0 ao xs.length) (hlo2 : Lo n0 bo ys.length) (h : SC B1 B2 ao bo ca cb xs ys A) (hc : ∀ a v, a.block < n0 → A.cell? a = some v → B.cell? a = some v) : SC B1 B2 ao bo ca cb xs ys B :=
  ⟨hc _ _ h1 h.box1, hc _ _ h2 h.box2, h.rd1.under hlo hc, h.rd2.under hlo2 hc⟩

theorem common_drop {xs ys : List S.R} {i j : Nat} (hi : i < xs.length) (hj : j < ys.length) : S.common (xs.drop i) (ys.drop j) = (if max xs[i].1 ys[j].1 ≤ min xs[i].2 ys[j].2 then [(max xs[i].1 ys[j].1, min xs[i].2 ys[j].2)] else []) ++ (if xs[i].2 < ys[j].2 then S.common (xs.drop (i + 1)) (ys.drop j) else S.common (xs.drop i) (ys.drop (j + 1))) := by
  rw [List.drop_eq_getElem_cons hi, List.drop_eq_getElem_cons hj, S.common, ← List.drop_eq_getElem_cons hi, ← List.drop_eq_getElem_cons hj]

set_option maxRecDepth 100000 in
set_option maxHeartbeats 4000000 in
theorem comm1_in (n : Nat) (hn : 1 ≤ n) (l B1 B2 : Nat) (ao bo : Option Addr) (ca cb : Nat) (xs ys : List S.R) (hl : xs.length ≤ 1000000) (hl2 : ys.length ≤ 1000000) (Kp : World → World → Prop) (Q : World → Prop) (hH : Hold Kp Q) (hQ : ∀ W, Q W → SC B1 B2 ao bo ca cb xs ys W) (J Jx : List S.R → World → Prop)
    (W : World) (hJ : AbidesFrom W.heap.size J)
    (hY : ∀ pre x W1, J pre W1 → pre.length < (S.common xs ys).length → YieldAt Fence.wide (n - 1) Try.prog l (encP x) W1 fun e W' =>
      (e = .returned (.bool true) ∧ J (pre ++ [x]) W' ∧ Kp W1 W') ∨ (e = .returned (.bool false) ∧ Jx (pre ++ [x]) W'))
    (hS : Q W) (h0 : J [] W) :
    CallsIn Fence.wide n Try.prog 37 #[.func (.yield l) #[] #[], .pointer (some ⟨B1, 0, none⟩), .pointer (some ⟨B2, 0, none⟩)] W fun e W' => (∃ v, e = .returned v) ∧
      ((∃ zs, zs = S.common xs ys ∧ J zs W') ∨ (∃ pre, pre <+: S.common xs ys ∧ Jx pre W')) := by
  refine callsIn_of_wp Try.func37 rfl trivial ?_ rfl
  simp only [Try.ntmps37, List.size_toArray, List.length_cons, List.length_nil, Nat.reduceAdd, Nat.reduceSub, Array.replicate_succ, Array.replicate_zero, List.push_toArray, List.append_toArray, List.nil_append, List.cons_append]
  gi_wp2
  have hround : ∀ (pre : List S.R) (x : S.R) (post : List S.R) (w1 w2 : World), Hid (S.common xs ys = pre ++ (x :: post)) → J pre w1 → Q w1 → Below w1.heap.size w1 w2 → ∃ fn tmps assign body, (Instr.yield l #[.agg #[.int .i32 x.1, .int .i32 x.2]]).run Try.prog w2 = .ok (.round l fn tmps assign body) w2 ∧
      RoundIn Fence.wide (n - 1) Try.prog l fn tmps assign body w2 (fun e W' => (e = .returned (.bool true) ∧ J (pre ++ [x]) W' ∧ Q W') ∨ (e = .returned (.bool false) ∧ Jx (pre ++ [x]) W')) := by
    intro pre x post w1 w2 HP hJ1 hS1 hb2
    have hJ2 : J pre _ := hJ _ w1 _ none hJ1 (grown_below hb2 none) (fun r e => by cases e)
    have hS2 := hH.grow _ _ hS1 hb2
    obtain ⟨fn, tmps, assign, body, hy, hR⟩ := hY _ x _ hJ2 (by rw [HP.out]; simp)
    refine ⟨fn, tmps, assign, body, hy, hR.mono ?_⟩
    rintro e W' (⟨h1, h2, h3⟩ | h)
    · exact .inl ⟨h1, h2, hH.step _ _ hS2 h3⟩
    · exact .inr h
  clear hY
  gi_loopw [4, 5] (fun p q wr => ∃ (pre : List S.R) (i j : Nat), p = .int .i64 (i : Int) ∧ q = .int .i64 (j : Int) ∧ i ≤ xs.length ∧ j ≤ ys.length ∧ Hid (S.common xs ys = pre ++ S.common (xs.drop i) (ys.drop j)) ∧ J pre wr ∧ Q wr) (fun p q _ => xs.length + ys.length - ((intOf p).toNat + (intOf q).toNat))
  case atStart => exact ⟨[], 0, 0, rfl, rfl, Nat.zero_le _, Nat.zero_le _, rfl, h0, hS⟩
  case round =>
    obtain ⟨pre, i, j, rfl, rfl, hi, hj, HP, hJs, hSs⟩ := hrel
    have hbx1 := (hQ _ hSs).box1
    have hbx2 := (hQ _ hSs).box2
    by_cases hi' : i < xs.length
    · by_cases hj' : j < ys.length
      · obtain ⟨b, off, rfl, hc1, hc2⟩ := (hQ _ hSs).rd1 i hi'
        obtain ⟨b', off', rfl, hd1, hd2⟩ := (hQ _ hSs).rd2 j hj'
        have HQ : Hid (S.common xs ys = pre ++ ((if max xs[i].1 ys[j].1 ≤ min xs[i].2 ys[j].2 then [(max xs[i].1 ys[j].1, min xs[i].2 ys[j].2)] else []) ++ (if xs[i].2 < ys[j].2 then S.common (xs.drop (i + 1)) (ys.drop j) else S.common (xs.drop i) (ys.drop (j + 1))))) := by
          show _ = _
          rw [HP.out, common_drop hi' hj']
        clear HP
        obtain ⟨x1, hx1⟩ : ∃ x1, xs[i].1 = x1 := ⟨_, rfl⟩
        obtain ⟨x2, hx⟩ : ∃ x2, xs[i].2 = x2 := ⟨_, rfl⟩
        obtain ⟨y1, hy1⟩ : ∃ y1, ys[j].1 = y1 := ⟨_, rfl⟩
        obtain ⟨y2, hy⟩ : ∃ y2, ys[j].2 = y2 := ⟨_, rfl⟩
        rw [hx1, hx, hy1, hy] at HQ
        rw [hx1] at hc1
        rw [hx] at hc2
        rw [hy1] at hd1
        rw [hy] at hd2
        clear hx1 hy1
        have hrd1 : ∀ W, Q W → W.cell? ⟨b, off + i * 2 + 1, none⟩ = some (.int .i32 x2) := fun W h => by
          obtain ⟨_, _, e, _, h2⟩ := (hQ W h).rd1 i hi'
          cases e
          rw [h2, hx]
        have hrd2 : ∀ W, Q W → W.cell? ⟨b', off' + j * 2 + 1, none⟩ = some (.int .i32 y2) := fun W h => by
          obtain ⟨_, _, e, _, h2⟩ := (hQ W h).rd2 j hj'
          cases e
          rw [h2, hy]
        have hbs1 : ∀ W, Q W → W.cell? ⟨B1, 0, none⟩ = some (.slice (some ⟨b, off, none⟩) xs.length ca) := fun W h => (hQ W h).box1
        have hbs2 : ∀ W, Q W → W.cell? ⟨B2, 0, none⟩ = some (.slice (some ⟨b', off', none⟩) ys.length cb) := fun W h => (hQ W h).box2
        clear hx hy
        have hbd : ∀ q, Below wr.heap.size wr (wr.drewN q) := fun q => below_drewN (Below.refl _ wr) q
        have hmx : (if x1 < y1 then y1 else x1) = max x1 y1 := by omega
        have hmn : (if y2 < x2 then y2 else x2) = min x2 y2 := by omega
        have hJd : ∀ (pre : List S.R) {A : World}, J pre A → Q A → ∀ q, J pre (A.drewN q) ∧ Q (A.drewN q) := fun pre A h1 h2 q =>
          ⟨hJ _ A _ none h1 (grown_below (below_drewN (Below.refl _ A) q) none) (fun r e => by cases e), hH.grow _ _ h2 (below_drewN (Below.refl _ A) q)⟩
        clear hQ
        gi_wp2
        gi_big_quiet (fail)
        clear hmx hmn hbx1 hbx2 hc1 hc2 hd1 hd2
        generalize max x1 y1 = lo at *
        generalize min x2 y2 = hi0 at *
        by_cases hle : lo ≤ hi0
        · rw [if_pos hle] at HQ
          obtain ⟨fn, tmps, assign, body, hy, hR⟩ := hround pre (lo, hi0) _ wr _ HQ hJs hSs (hbd nq)
          clear hround hJs hSs hS h0 hJ hH
          gi_wp2
          refine hR.mono ?_
          rintro e W3 (⟨rfl, hJ3, hS3⟩ | ⟨rfl, hJx3⟩)
          · have e1 := hbs1 _ hS3
            have e2 := hbs2 _ hS3
            have e3 := hrd1 _ hS3
            have e4 := hrd2 _ hS3
            clear hbs1 hbs2 hrd1 hrd2 hR hy
            gi_wp2
            by_cases hxy : x2 < y2
            · rw [if_pos hxy] at HQ
              gi_big_quiet (fail)
              gi_wp2
              go_roundw
              case rel => exact ⟨_, i + 1, j, by go_num, rfl, by omega, by omega, by rw [List.append_assoc]; exact HQ, hJd _ hJ3 hS3 _⟩
              case measure => simp [intOf]; omega
            · rw [if_neg hxy] at HQ
              have hyx : y2 ≤ x2 := by omega
              gi_big_quiet (fail)
              gi_wp2
              go_roundw
              case rel => exact ⟨_, i, j + 1, rfl, by go_num, by omega, by omega, by rw [List.append_assoc]; exact HQ, hJd _ hJ3 hS3 _⟩
              case measure => simp [intOf]; omega
          · clear hbs1 hbs2 hrd1 hrd2 hR hy
            gi_wp2
            refine bodyPost_ret (results_none rfl _ _ _) rfl ?_
            exact ⟨⟨_, rfl⟩, .inr ⟨_, ⟨_, by rw [List.append_assoc]; exact HQ.out.symm⟩, hJx3⟩⟩
        · rw [if_neg hle, List.nil_append] at HQ
          have hS2 := hH.grow _ _ hSs (hbd nq)
          have hJ2 : J pre _ := hJ _ wr _ none hJs (grown_below (hbd nq) none) (fun r e => by cases e)
          have e1 := hbs1 _ hS2
          have e2 := hbs2 _ hS2
          have e3 := hrd1 _ hS2
          have e4 := hrd2 _ hS2
          clear hbs1 hbs2 hrd1 hrd2 hround hJs hSs hS h0 hJ hH hbd
          generalize wr.drewN nq = W3 at *
          have hle' : hi0 < lo := by omega
          gi_wp2
          refine ⟨fun _ h => (by cases h), ?_⟩
          gi_wp2
          by_cases hxy : x2 < y2
          · rw [if_pos hxy] at HQ
            gi_big_quiet (fail)
            gi_wp2
            go_roundw
            case rel => exact ⟨_, i + 1, j, by go_num, rfl, by omega, by omega, HQ, hJd _ hJ2 hS2 _⟩
            case measure => simp [intOf]; omega
          · rw [if_neg hxy] at HQ
            have hyx : y2 ≤ x2 := by omega
            gi_big_quiet (fail)
            gi_wp2
            go_roundw
            case rel => exact ⟨_, i, j + 1, rfl, by go_num, by omega, by omega, HQ, hJd _ hJ2 hS2 _⟩
            case measure => simp [intOf]; omega
      · obtain rfl : j = ys.length := by omega
        rw [List.drop_length, S.common_nil, List.append_nil] at HP
        clear hround hS h0 hJ hQ hH hSs
        gi_wp2
        go_end0
        exact ⟨⟨_, rfl⟩, .inl ⟨_, HP.out.symm, hJs⟩⟩
    · obtain rfl : i = xs.length := by omega
      rw [List.drop_length, show S.common [] (ys.drop j) = [] by simp [S.common], List.append_nil] at HP
      clear hround hS h0 hJ hQ hH hSs
      gi_wp2
      go_end0
      exact ⟨⟨_, rfl⟩, .inl ⟨_, HP.out.symm, hJs⟩⟩

theorem comm_gives (n : Nat) (hn : 1 ≤ n) (B1 B2 n0 : Nat) (ao bo : Option Addr) (ca cb : Nat) (xs ys : List S.R) (hl : xs.length ≤ 1000000) (hl2 : ys.length ≤ 1000000) (w : World) (hS : SC B1 B2 ao bo ca cb xs ys w) (h1 : B1 < n0) (h2 : B2 < n0) (hlo : Lo n0 ao xs.length) (hlo2 : Lo n0 bo ys.length) :
    Gives n 37 #[.pointer (some ⟨B1, 0, none⟩), .pointer (some ⟨B2, 0, none⟩)] (S.common xs ys) n0 w := fun _ Ok mine hM hOk l J Jx W hW hJ _ hY h0 =>
  comm1_in n hn l B1 B2 ao bo ca cb xs ys hl hl2 (KpM Ok mine) (fun W => Ok W ∧ SC B1 B2 ao bo ca cb xs ys W) (hold_of hM (fun _ _ h hb => h.later hb) (fun _ _ h hc => h.under h1 h2 hlo hlo2 hc)) (fun _ h => h.2) J Jx W hJ hY ⟨(hM.grow w W hOk hW).1, hS.later hW⟩ h0

set_option maxHeartbeats 1000000 in
theorem commMake_any (ao bo : Option Addr) (la lb ca cb : Nat) (w : World) :
    Calls Try.prog 27 #[.slice ao la ca, .slice bo lb cb] w fun e w' => e = .returned (.func (.func 37) #[] #[.pointer (some ⟨w.heap.size, 0, none⟩), .pointer (some ⟨w.heap.size + 1, 0, none⟩)]) ∧ w' = (w.alloc (.cells #[.slice ao la ca] 52)).alloc (.cells #[.slice bo lb cb] 52) := by
  go_enter Try.func27, Try.ntmps27
  go_wp2
  go_ret
  exact ⟨rfl, rfl⟩

/-- What both have, by an iterator. -/
theorem common_gives (ao bo : Option Addr) (ca cb : Nat) (xs ys : List S.R) (hl : xs.length ≤ 1000000) (hl2 : ys.length ≤ 1000000) (w : World) (hr : RdR w ao xs) (hr2 : RdR w bo ys) :
    Calls Try.prog 27 #[.slice ao xs.length ca, .slice bo ys.length cb] w fun e w' => ∃ v, e = .returned v ∧ Iter v (S.common xs ys) w' ∧ Below w.heap.size w w' := by
  refine (commMake_any ao bo xs.length ys.length ca cb w).mono ?_
  rintro e w' ⟨rfl, rfl⟩
  refine ⟨_, rfl, ⟨37, _, rfl, enters_of Try.func37 (by kernel_rfl) rfl, fun n hn W hW => ?_⟩, al2 w _ _⟩
  have h2 := (Boxed.new (w.alloc (.cells #[.slice ao xs.length ca] 52)) 52 (.slice bo ys.length cb)).cell
  rw [World.size_alloc] at h2
  have hS : SC w.heap.size (w.heap.size + 1) ao bo ca cb xs ys ((w.alloc (.cells #[.slice ao xs.length ca] 52)).alloc (.cells #[.slice bo ys.length cb] 52)) :=
    ⟨((Boxed.new w 52 _).alloc _).cell, h2, hr.later (al2 w _ _), hr2.later (al2 w _ _)⟩
  exact comm_gives n hn _ _ _ ao bo ca cb xs ys hl hl2 W (hS.later hW) (by simp; omega) (by simp) (hr.lo.mono (by simp; omega)) (hr2.lo.mono (by simp; omega))
end Go.Proofs.Ytfbojpodaddaeaa
