/- SubsetMany: its families by the kernel. -/
import Derived.Test.YtgngaldoemopjaaGreatDoorDSbd
namespace Go.Proofs.YtgngaldoemopjaaGreatDoor
open Go.RowKit Go.Shelf
open E (T isS)
namespace SB
/-- A number, worked out. -/
def forced {α : Type} (n : Nat) (f : Nat → α) : α := Nat.rec (f 0) (fun m _ => f (m + 1)) n
theorem forced_eq {α : Type} (n : Nat) (f : Nat → α) : forced n f = f n := by cases n <;> rfl
/-- num, its mask worked out. -/
def nxF (b : Nat) : List Nat → List Nat → List Nat
  | [], L => L
  | f :: fs, L => forced (b &&& f) fun x => if L.any (fun y => y == x) then nxF b fs L else nxF b fs (L ++ [x])
theorem nxF_eq (b : Nat) : ∀ fs L : List Nat, nxF b fs L = nx b fs L
  | [], _ => rfl
  | f :: fs, L => by
    rw [nxF, forced_eq]
    show _ = nx b fs (num L (b &&& f))
    unfold num
    by_cases h : b &&& f ∈ L
    · rw [if_pos h, if_pos (by simpa using h)]
      exact nxF_eq b fs _
    · rw [if_neg h, if_neg (by simpa using h)]
      exact nxF_eq b fs _
/-- The masks met, gone on as long as there are more and not too many. -/
def run (bh : Nat → Nat) (fs : List Nat) : Nat → Nat → List Nat → Nat × List Nat
  | 0, i, L => (i, L)
  | n + 1, i, L => match L[i]? with
    | none => (i, L)
    | some m => if L.length ≤ 128 then forced (bh m) fun b => run bh fs n (i + 1) (nxF b fs L) else (i, L)
theorem run_gr (bh : Nat → Nat) (fs : List Nat) : ∀ n i, ∃ j, i ≤ j ∧ run bh fs n i (gr bh fs i) = (j, gr bh fs j) ∧ ∀ q, i ≤ q → q < j → q < (gr bh fs q).length ∧ (gr bh fs q).length ≤ 128
  | 0, i => ⟨i, Nat.le_refl _, rfl, fun q h1 h2 => absurd h2 (by omega)⟩
  | n + 1, i => by
    rw [run]
    cases hL : (gr bh fs i)[i]? with
    | none => exact ⟨i, Nat.le_refl _, rfl, fun q h1 h2 => absurd h2 (by omega)⟩
    | some m =>
      have hlt := (List.getElem?_eq_some_iff.1 hL).1
      by_cases h : (gr bh fs i).length ≤ 128
      · have e : nxF (bh m) fs (gr bh fs i) = gr bh fs (i + 1) := by
          rw [nxF_eq, gr, List.getD_eq_getElem?_getD, hL, Option.getD_some]
        obtain ⟨j, h1, h2, h3⟩ := run_gr bh fs n (i + 1)
        refine ⟨j, by omega, ?_, fun q hq1 hq2 => ?_⟩
        · show (if (gr bh fs i).length ≤ 128 then forced (bh m) fun b => run bh fs n (i + 1) (nxF b fs (gr bh fs i)) else (i, gr bh fs i)) = _
          rw [if_pos h, forced_eq, e]
          exact h2
        · by_cases e2 : q = i
          · subst e2; exact ⟨hlt, h⟩
          · exact h3 q (by omega) hq2
      · exact ⟨i, Nat.le_refl _, by
          show (if (gr bh fs i).length ≤ 128 then forced (bh m) fun b => run bh fs n (i + 1) (nxF b fs (gr bh fs i)) else (i, gr bh fs i)) = _
          rw [if_neg h], fun q h1 h2 => absurd h2 (by omega)⟩
theorem nx_zero {L : List Nat} (h : 0 ∈ L) : ∀ fs, nx 0 fs L = L
  | [] => rfl
  | f :: fs => by
    show nx 0 fs (num L (0 &&& f)) = L
    rw [Nat.zero_and, num, if_pos h]
    exact nx_zero h fs
theorem gr_still {bh : Nat → Nat} {fs : List Nat} {j : Nat} (h0 : bh 0 = 0) (hm : 0 ∈ gr bh fs j) (hl : (gr bh fs j).length = j) : ∀ d, gr bh fs (j + d) = gr bh fs j
  | 0 => rfl
  | d + 1 => by
    have ih := gr_still h0 hm hl d
    show nx (bh ((gr bh fs (j + d)).getD (j + d) 0)) fs (gr bh fs (j + d)) = _
    rw [ih, List.getD_eq_getElem?_getD, List.getElem?_eq_none (by omega), Option.getD_none, h0]
    exact nx_zero hm fs
end SB
theorem fm_congr {α β : Type} {f g : α → List β} : ∀ l : List α, (∀ x ∈ l, f x = g x) → l.flatMap f = l.flatMap g
  | [], _ => rfl
  | x :: l, h => by rw [List.flatMap_cons, List.flatMap_cons, h x List.mem_cons_self, fm_congr l fun y hy => h y (List.mem_cons_of_mem _ hy)]
def endsC (T : List (List U.S.R)) : List (Int × Nat) := (List.range T.length).flatMap fun i => U.evR i (T.getD i [])
def pcC (T : List (List U.S.R)) : List (U.S.R × Nat) := U.pieces ((U.ksOf (endsC T)).map fun k => (k, (U.evN (endsC T) k).getD 0))
theorem pcs_eq {ls : List U.L3} {T : List (List U.S.R)} (h : ls.map (·.2.2) = T) (hc : ∀ z ∈ T, U.S.set z = z) : pcs ls = pcC T := by
  have e2 : ls.length = T.length := by have := congrArg List.length h; simpa using this
  have e1 : U.TOf ls = T := h
  have e4 : U.endsL ls = endsC T := by
    unfold U.endsL U.evT endsC
    rw [e1, e2]
    refine fm_congr _ fun i hi => ?_
    rw [List.mem_range] at hi
    rw [hc _ (by rw [List.getD_eq_getElem?_getD, List.getElem?_eq_getElem hi]; exact List.getElem_mem hi)]
  unfold pcs U.endsZ pcC
  rw [e4]
namespace PA
def txM : Nat → List UInt8
  | 0 => [40, 39, 97, 32, 124, 32, 39, 98, 41, 42, 32, 39, 97]
  | i + 1 => txM i ++ [32, 40, 39, 97, 32, 124, 32, 39, 98, 41]
def oneS (z : List U.S.R) : Bool := decide (z = [(97, 97)]) || decide (z = [(98, 98)])
/-- Of an automaton of places: whether its states are too many (and that may be), or as many as they ought to be. -/
def outM (k : Nat) (a : Au) : Bool :=
  (a.pl.map (·.1)).all oneS && (decide ((U.msOf (pcC (a.pl.map (·.1)))).length = 3) && match SB.run (behind a) (SB.fsOf a (U.msOf (pcC (a.pl.map (·.1))))) 200 0 [bg] with
    | (j, L) => (decide (128 < L.length) && decide (5 ≤ k)) || (decide (L.length = j) && (decide (j ≤ 128) && (decide (2 ^ k < j) && L.any fun y => y == 0))))
noncomputable def chkM (k : Nat) : Bool :=
  lightC (txM k) && match E.parse (txM k) with
    | .ok t => treeC t && (decide (ct t ≤ 60) && outM k (auto t))
    | .error _ => false
theorem cm0 : chkM 0 = true := by kernel_rfl
theorem cm1 : chkM 1 = true := by kernel_rfl
theorem cm2 : chkM 2 = true := by kernel_rfl
theorem cm3 : chkM 3 = true := by kernel_rfl
theorem cm4 : chkM 4 = true := by kernel_rfl
theorem cm5 : chkM 5 = true := by kernel_rfl
theorem cm6 : chkM 6 = true := by kernel_rfl
theorem cm7 : chkM 7 = true := by kernel_rfl
theorem cm8 : chkM 8 = true := by kernel_rfl
theorem cm_all : ∀ k, k ≤ 8 → chkM k = true
  | 0, _ => cm0
  | 1, _ => cm1
  | 2, _ => cm2
  | 3, _ => cm3
  | 4, _ => cm4
  | 5, _ => cm5
  | 6, _ => cm6
  | 7, _ => cm7
  | 8, _ => cm8
  | n + 9, h => by omega
theorem many_ok {k : Nat} (h2 : k ≤ 8) : lightC (txM k) = true ∧ ∃ t, E.parse (txM k) = .ok t ∧ treeC t = true ∧ ct t ≤ 60 ∧ outM k (auto t) = true := by
  have h := cm_all k h2
  unfold chkM at h
  rw [Bool.and_eq_true] at h
  refine ⟨h.1, ?_⟩
  have h := h.2
  split at h
  · rename_i t ht
    rw [Bool.and_eq_true, Bool.and_eq_true, decide_eq_true_eq] at h
    exact ⟨t, ht, h⟩
  · cases h
end PA
/-- What New tells of such an automaton. -/
theorem many_out {k : Nat} {a : PA.Au} {w W : World} {e : Ending} (ho : PA.outM k a = true) (h : AnsDN a w e W) : Below w.heap.size w W ∧
    ((5 ≤ k ∧ e = .returned (.tuple #[.pointer none, .int .i64 140])) ∨
     ∃ D n ms ps L, e = .returned (.tuple #[.pointer (some ⟨D, 0, none⟩), .int .i64 0]) ∧ DAt W D a ms ps L ∧ L.length = n ∧ ms.length = 3 ∧ 2 ^ k < n ∧ n ≤ 128) := by
  unfold PA.outM at ho
  rw [Bool.and_eq_true, Bool.and_eq_true, decide_eq_true_eq, List.all_eq_true] at ho
  obtain ⟨hs, hm, ho⟩ := ho
  obtain ⟨hb, ls, hls, h⟩ := h
  have hp : pcs ls = pcC (a.pl.map (·.1)) := pcs_eq hls fun z hz => by
    have := hs z hz
    unfold PA.oneS at this
    rw [Bool.or_eq_true, decide_eq_true_eq, decide_eq_true_eq] at this
    rcases this with rfl | rfl
    · exact U.S.set_self (U.S.canon_one (by rfl))
    · exact U.S.set_self (U.S.canon_one (by rfl))
  rw [hp] at h
  refine ⟨hb, ?_⟩
  generalize U.msOf (pcC (a.pl.map (·.1))) = ms at *
  generalize SB.fsOf a ms = fs at *
  obtain ⟨j, _, hr, hj⟩ := SB.run_gr (PA.behind a) fs 200 0
  rw [show SB.gr (PA.behind a) fs 0 = [PA.bg] from rfl] at hr
  rw [hr] at ho
  have ho : (decide (128 < (SB.gr (PA.behind a) fs j).length) && decide (5 ≤ k) || (decide ((SB.gr (PA.behind a) fs j).length = j) && (decide (j ≤ 128) && (decide (2 ^ k < j) && (SB.gr (PA.behind a) fs j).any fun y => y == 0)))) = true := ho
  rw [Bool.or_eq_true, Bool.and_eq_true, Bool.and_eq_true, Bool.and_eq_true, Bool.and_eq_true, decide_eq_true_eq, decide_eq_true_eq, decide_eq_true_eq, decide_eq_true_eq, decide_eq_true_eq] at ho
  rcases ho with ⟨h1, h2⟩ | ⟨h1, h2, h3, h4⟩
  · rcases h with ⟨rfl, _⟩ | ⟨D, q, rfl, hq, hqj, hq1, hD⟩
    · exact .inl ⟨h2, rfl⟩
    · exfalso
      by_cases hlt : q < j
      · have := (hj q (Nat.zero_le _) hlt).1
        omega
      · have := (SB.gr_le (PA.behind a) fs (show j ≤ q by omega)).length_le
        omega
  · have h0 : 0 ∈ SB.gr (PA.behind a) fs j := by simpa using h4
    rcases h with ⟨rfl, q, hq, _, hq2⟩ | ⟨D, q, rfl, hq, hqj, hq1, hD⟩
    · exfalso
      by_cases hlt : q + 1 ≤ j
      · have := (SB.gr_le (PA.behind a) fs hlt).length_le
        omega
      · obtain ⟨d, rfl⟩ : ∃ d, q = j + d := ⟨q - j, by omega⟩
        rw [SB.gr_still (PA.behind_zero a) h0 h1 d] at hq
        omega
    · have e : q = j := by
        rcases Nat.lt_trichotomy q j with hlt | e | hlt
        · have := (hj q (Nat.zero_le _) hlt).1
          omega
        · exact e
        · have := hqj j hlt
          omega
      subst e
      exact .inr ⟨D, q, ms, _, _, rfl, hD, hq, hm, h3, hq1⟩
attribute [local go_sem] Oper.semAt_some
theorem bts_app' (a b : ByteArray) : bts (a ++ b) = bts a ++ bts b := by
  unfold bts
  simp
theorem txM_len : ∀ i, (PA.txM i).length = 10 * i + 13
  | 0 => rfl
  | i + 1 => by
    have := txM_len i
    rw [PA.txM]
    simp; omega
set_option maxRecDepth 100000 in
set_option maxHeartbeats 4000000 in
theorem smany_any (x : Nat) (hx : x < 256) (w : World) (ht : Tabs w) (hd : Deb w) : Calls Tryz.prog 6 #[.int .u8 (x : Int)] w fun e w' => e = .returned (.bool true) ∧ Below w.heap.size w w' := by
  have hk := known14_any w ht hd
  have hm : (x : Int) % 9 = ((x % 9 : Nat) : Int) := by omega
  have hm9 : x % 9 < 9 := Nat.mod_lt _ (by decide)
  generalize hn : x % 9 = m at *
  go_enter Tryz.func6, Tryz.ntmps6
  go_wp2_with fail
  refine hk.mono ?_
  rintro e w1 ⟨rfl, hb1⟩
  clear hk
  go_wp2
  rw [hm]
  clear hm hn
  go_loopw [4, 5] (fun p u wr => ∃ (i : Nat) (A : ByteArray), p = .string A ∧ u = .int .i64 (i : Int) ∧ i ≤ m ∧ Hid (bts A = PA.txM i) ∧ wr = w1) (fun _ u _ => m - (intOf u).toNat)
  case atStart => exact ⟨0, _, rfl, rfl, Nat.zero_le _, hide rfl, by first | rfl | trivial⟩
  case round =>
    obtain ⟨i, A, rfl, rfl, hi, HA, hwr⟩ := hrel
    obtain rfl := hwr.symm
    clear hwr
    have hAs : A.size ≤ 103 := by
      rw [← bts_len, HA.out, txM_len]; omega
    have hA2 : ∀ c : ByteArray, (A ++ c).size = A.size + c.size := fun c => ByteArray.size_append
    by_cases hlt : i < m
    · go_wp2
      go_roundw
      case rel => exact ⟨i + 1, _, rfl, by go_num, by omega, hide (by rw [bts_app', HA.out, PA.txM]; rfl), by first | rfl | trivial⟩
      case measure => simp [intOf] <;> omega
    · obtain rfl : i = m := by omega
      obtain ⟨hli, t, hpt, htc, hct, hans⟩ := PA.many_ok (k := i) (by omega)
      obtain ⟨hac, hnb, hps⟩ := PA.treeC_ok htc
      have HLI := hide hli
      have HAN := hide hans
      have HNB := hide (And.intro hac (And.intro hnb hps))
      have hpa := parse_light A (by omega) (light_of (by rw [HA.out]; exact HLI.out)) w1 (ht.later hb1)
      rw [HA.out, hpt] at hpa
      clear hans hpt htc hli hac hnb hps
      have p1 : 2 ^ i ≤ 2 ^ 8 := Nat.pow_le_pow_right (by decide) (by omega)
      have p3 := Nat.two_pow_pos i
      have ci : ((2 : Int) ^ i) = ((2 ^ i : Nat) : Int) := by simp
      rw [show (2 : Nat) ^ 8 = 256 from rfl] at p1
      obtain ⟨P, hP⟩ : ∃ P, 2 ^ i = P := ⟨_, rfl⟩
      have HP := hide hP
      rw [hP] at p1 p3 ci
      have s1 : IntKind.i64.wrap (2 ^ i) = (P : Int) := by rw [ci]; exact IntWalk.i64_in _ ⟨by omega, by omega⟩
      clear ci hP
      go_wp2_with fail
      refine hpa.mono ?_
      intro e w2 ha
      obtain ⟨hb2, d, rfl, htr⟩ := ha.ok
      have a2 := al1 w2 (.cells #[.int .i64 d.k, .int .i64 d.a, .slice d.sp d.sl d.sc, .string d.n, .slice d.kp d.kl d.kc] 25)
      have n2 := heap_alloc_new w2 (.cells #[.int .i64 d.k, .int .i64 d.a, .slice d.sp d.sl d.sc, .string d.n, .slice d.kp d.kl d.kc] 25)
      have B2 := nx hb1 (nx hb2 a2)
      have hN := dfa_any t d (w2.alloc (.cells #[.int .i64 d.k, .int .i64 d.a, .slice d.sp d.sl d.sc, .string d.n, .slice d.kp d.kl d.kc] 25)) (ht.later B2) (hd.later B2) (TR.later (fun k hk => a2.block k hk) _ htr) HNB.out.2.2 HNB.out.2.1
      obtain ⟨q0, q1, q2, q3, q4⟩ := cells_five n2
      clear hpa ha htr a2 n2
      unfold ND.v at hN ⊢
      go_wp2_with fail
      refine hN.mono ?_
      intro e W3 hw
      obtain ⟨hb3, ⟨hno, _⟩ | ⟨_, _, W0, hans⟩⟩ := hw
      · exact absurd ⟨HNB.out.1, hct⟩ hno
      have B3 := nx B2 hb3
      obtain ⟨_, ⟨h5, rfl⟩ | ⟨D, n, ms, ps, L, rfl, hD, hL, hms, h6, h7⟩⟩ := many_out HAN.out hans
      · clear hN q0 q1 q2 q3 q4 hb1 hb2 hb3 hct
        go_wp2
        go_ret
        exact ⟨rfl, B3⟩
      · have c1 := dlen_any hD
        have c2 := dcls_any hD
        rw [hL] at c1
        rw [hms] at c2
        rw [HP.out] at h6
        clear hN q0 q1 q2 q3 q4 hb1 hb2 hb3 hct hD hL hms hans
        go_wp2_with fail
        refine c1.mono ?_
        rintro e W4 ⟨rfl, rfl⟩
        go_wp2_with fail
        refine c1.mono ?_
        rintro e W5 ⟨rfl, rfl⟩
        go_wp2_with fail
        refine c2.mono ?_
        rintro e W6 ⟨rfl, rfl⟩
        go_wp2
        go_ret
        exact ⟨rfl, B3⟩
end Go.Proofs.YtgngaldoemopjaaGreatDoor
