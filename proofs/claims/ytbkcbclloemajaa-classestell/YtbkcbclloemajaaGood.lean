/- The iterator over what is good of lists of ranges. -/
import Derived.Test.YtbkcbclloemajaaGaps
namespace Go.Proofs.Ytbkcbclloemajaa
open Go.RowKit Go.Shelf
attribute [local go_sem] Oper.semAt_some

/-- Lists: where each lies, its capacity, its ranges. -/
abbrev L3 := Option Addr × Nat × List S.R
def flat (ls : List L3) : List S.R := ls.flatMap fun p => p.2.2
theorem flat_take (ls : List L3) (k : Nat) (h : k < ls.length) : flat (ls.take (k + 1)) = flat (ls.take k) ++ ls[k].2.2 := by
  rw [List.take_succ_eq_append_getElem h]
  unfold flat
  simp only [List.flatMap_append, List.flatMap_cons, List.flatMap_nil, List.append_nil]
theorem flat_split (ls : List L3) (k : Nat) (h : k < ls.length) : flat ls = flat (ls.take k) ++ (ls[k].2.2 ++ flat (ls.drop (k + 1))) := by
  have e : ls = ls.take k ++ ls.drop k := (List.take_append_drop k ls).symm
  rw [List.drop_eq_getElem_cons h] at e
  have e2 : flat ls = flat (ls.take k ++ ls[k] :: ls.drop (k + 1)) := by rw [← e]
  rw [e2]
  unfold flat
  rw [List.flatMap_append, List.flatMap_cons]

/-- What the iterator reads: the box of its lists, the lists, the ranges. -/
structure SL (Bn b off cap : Nat) (ls : List L3) (W : World) : Prop where
  box : W.cell? ⟨Bn, 0, none⟩ = some (.slice (some ⟨b, off, none⟩) ls.length cap)
  cells : ∀ i (h : i < ls.length), W.cell? ⟨b, off + i, none⟩ = some (.slice ls[i].1 ls[i].2.2.length ls[i].2.1)
  rd : ∀ p ∈ ls, RdR W p.1 p.2.2
theorem SL.later {Bn b off cap : Nat} {ls : List L3} {W W' : World} (h : SL Bn b off cap ls W) (hb : Below W.heap.size W W') : SL Bn b off cap ls W' :=
  ⟨cell_later hb h.box, fun i hi => cell_later hb (h.cells i hi), fun p hp => (h.rd p hp).later hb⟩
theorem SL.under {Bn b off cap n0 : Nat} {ls : List L3} {A B : World} (hn : Bn < n0) (hb : b < n0) (hlo : ∀ p ∈ ls, Lo n0 p.1 p.2.2.length) (h : SL Bn b off cap ls A) (hc : ∀ a v, a.block < n0 → A.cell? a = some v → B.cell? a = some v) : SL Bn b off cap ls B :=
  ⟨hc _ _ hn h.box, fun i hi => hc _ _ hb (h.cells i hi), fun p hp => (h.rd p hp).under (hlo p hp) hc⟩

set_option maxRecDepth 100000 in
set_option maxHeartbeats 4000000 in
theorem good1_in (n : Nat) (hn : 1 ≤ n) (l Bn b off cap : Nat) (ls : List L3) (hl : ls.length ≤ 1000) (hl2 : ∀ p ∈ ls, p.2.2.length ≤ 1000000) (Kp : World → World → Prop) (Q : World → Prop) (hH : Hold Kp Q) (hQ : ∀ W, Q W → SL Bn b off cap ls W) (J Jx : List S.R → World → Prop)
    (W : World) (hJ : AbidesFrom W.heap.size J)
    (hY : ∀ pre x W1, J pre W1 → pre.length < (S.goods (flat ls)).length → YieldAt Fence.wide (n - 1) Try.prog l (encP x) W1 fun e W' =>
      (e = .returned (.bool true) ∧ J (pre ++ [x]) W' ∧ Kp W1 W') ∨ (e = .returned (.bool false) ∧ Jx (pre ++ [x]) W'))
    (hS : Q W) (h0 : J [] W) :
    CallsIn Fence.wide n Try.prog 44 #[.func (.yield l) #[] #[], .pointer (some ⟨Bn, 0, none⟩)] W fun e W' => (∃ v, e = .returned v) ∧
      ((∃ ys, ys = S.goods (flat ls) ∧ J ys W') ∨ (∃ pre, pre <+: S.goods (flat ls) ∧ Jx pre W')) := by
  refine callsIn_of_wp Try.func44 rfl trivial ?_ rfl
  simp only [Try.ntmps44, List.size_toArray, List.length_cons, List.length_nil, Nat.reduceAdd, Nat.reduceSub, Array.replicate_succ, Array.replicate_zero, List.push_toArray, List.append_toArray, List.nil_append, List.cons_append]
  have hbox0 := (hQ _ hS).box
  gi_wp2
  clear hbox0
  have hround : ∀ (pre : List S.R) (x : S.R) (post : List S.R) (w1 w2 : World), Hid (flat ls = pre ++ (x :: post)) → S.good x = true → J (S.goods pre) w1 → Q w1 → Below w1.heap.size w1 w2 → ∃ fn tmps assign body, (Instr.yield l #[.agg #[.int .i32 x.1, .int .i32 x.2]]).run Try.prog w2 = .ok (.round l fn tmps assign body) w2 ∧
      RoundIn Fence.wide (n - 1) Try.prog l fn tmps assign body w2 (fun e W' => (e = .returned (.bool true) ∧ J (S.goods (pre ++ [x])) W' ∧ Q W') ∨ (e = .returned (.bool false) ∧ ∃ pre, pre <+: S.goods (flat ls) ∧ Jx pre W')) := by
    intro pre x post w1 w2 HP hgx hJ1 hS1 hb2
    have hJ2 : J (S.goods pre) _ := hJ _ w1 _ none hJ1 (grown_below hb2 none) (fun r e => by cases e)
    have hS2 := hH.grow _ _ hS1 hb2
    have e1 : S.goods (flat ls) = S.goods pre ++ (x :: S.goods post) := by rw [HP.out]; simp [S.goods, hgx]
    have e2 : S.goods (pre ++ [x]) = S.goods pre ++ [x] := by simp [S.goods, hgx]
    obtain ⟨fn, tmps, assign, body, hy, hR⟩ := hY _ x _ hJ2 (by rw [e1]; simp)
    refine ⟨fn, tmps, assign, body, hy, hR.mono ?_⟩
    rw [e2]
    rintro e W' (⟨h1, h2, h3⟩ | ⟨h1, h2⟩)
    · exact .inl ⟨h1, h2, hH.step _ _ hS2 h3⟩
    · exact .inr ⟨h1, _, ⟨S.goods post, by rw [e1]; simp⟩, h2⟩
  clear hY
  gi_loopw [9] (fun p wr => ∃ k : Nat, p = .int .i64 (k : Int) ∧ k ≤ ls.length ∧ J (S.goods (flat (ls.take k))) wr ∧ Q wr) (fun p _ => ls.length - (intOf p).toNat)
  case atStart => exact ⟨0, rfl, Nat.zero_le _, h0, hS⟩
  case round =>
    obtain ⟨k, rfl, hk, hJs, hSs⟩ := hrel
    by_cases hlt : k < ls.length
    · have hcell := (hQ _ hSs).cells k hlt
      have hxl := hl2 _ (List.getElem_mem hlt)
      have HF := hide (flat_split ls k hlt)
      have HT := hide (flat_take ls k hlt)
      have hrdk : ∀ W, Q W → RdR W ls[k].1 ls[k].2.2 := fun W h => (hQ W h).rd _ (List.getElem_mem hlt)
      generalize ls[k] = p at *
      obtain ⟨ao, cp, xs⟩ := p
      simp only at hcell hxl HF HT hrdk
      clear hQ
      gi_wp2
      gi_loopw [15] (fun p wr => ∃ j : Nat, p = .int .i64 (j : Int) ∧ j ≤ xs.length ∧ J (S.goods (flat (ls.take k) ++ xs.take j)) wr ∧ Q wr) (fun p _ => xs.length - (intOf p).toNat)
      case atStart => exact ⟨0, rfl, Nat.zero_le _, by rw [List.take_zero, List.append_nil]; exact hJs, hSs⟩
      case round =>
        obtain ⟨j, rfl, hj, hJt, hSt⟩ := hrel
        by_cases hjt : j < xs.length
        · obtain ⟨b2, off2, rfl, hc1, hc2⟩ := hrdk _ hSt j hjt
          have HF2 : Hid (flat ls = (flat (ls.take k) ++ xs.take j) ++ (xs[j] :: (xs.drop (j + 1) ++ flat (ls.drop (k + 1))))) := by
            show _ = _
            have e : xs = xs.take j ++ xs[j] :: xs.drop (j + 1) := by rw [← List.drop_eq_getElem_cons hjt, List.take_append_drop]
            rw [HF.out, List.append_assoc]
            congr 1
            conv => lhs; rw [e]
            rw [List.append_assoc]
            rfl
          have HT2 : Hid (xs.take (j + 1) = xs.take j ++ [xs[j]]) := List.take_succ_eq_append_getElem hjt
          have hb1 := al1 wr (.cells #[.int .i32 xs[j].1, .int .i32 xs[j].2] 48)
          have hx0 := cells_two (World.alloc_heap_new wr (.cells #[.int .i32 xs[j].1, .int .i32 xs[j].2] 48))
          have hnext : S.good xs[j] = true → ∀ w2, Below wr.heap.size wr w2 → _ := fun hg w2 hb => hround _ xs[j] _ wr w2 HF2 hg hJt hSt hb
          rw [List.append_assoc, ← HT2.out] at hnext
          have hJg : S.good xs[j] = false → ∀ w2, Below wr.heap.size wr w2 → J (S.goods (flat (ls.take k) ++ xs.take (j + 1))) w2 ∧ Q w2 := fun hg w2 hb => by
            rw [HT2.out, ← List.append_assoc, S.goods_append, show S.goods [xs[j]] = [] by simp [S.goods, hg], List.append_nil]
            exact ⟨hJ _ wr _ none hJt (grown_below hb none) (fun r e => by cases e), hH.grow _ _ hSt hb⟩
          have hgood := isGood_any xs[j].1 xs[j].2
          rw [show (xs[j].1, xs[j].2) = xs[j] from rfl] at hgood
          generalize S.good xs[j] = gx at *
          generalize xs[j].1 = x1 at *
          generalize xs[j].2 = x2 at *
          clear HF HT HF2 HT2 hround hrdk hS h0 hJ hH hJs hSs hJt hSt
          cases gx with
          | true =>
            replace hnext := hnext rfl
            clear hJg
            gi_wp2_with (first
              | (refine ⟨trivial, ?_⟩; gi_at_call 38; refine (callsIn_wide.2 (hgood _)).mono ?_; clear hgood; rintro e w2 ⟨rfl, hb2⟩; have hx1 := cell_later hb2 hx0.1; have hx2 := cell_later hb2 hx0.2)
              | (refine ⟨trivial, ?_⟩; gi_at_call 39; refine (callsIn_wide.2 (spanOf_any x1 x2 _)).mono ?_; rintro e w3 ⟨rfl, hb3⟩; obtain ⟨fn, tmps, assign, body, hy, hR⟩ := hnext w3 (nx (nx hb1 hb2) hb3)))

            refine hR.mono ?_
            rintro e W4 (⟨rfl, hJ4, hS4⟩ | ⟨rfl, hJx4⟩)
            · gi_wp2
              go_roundw
              case rel => exact ⟨j + 1, by go_num, by omega, hJ4, hS4⟩
              case measure => simp [intOf]; omega
            · gi_wp2
              refine bodyPost_ret (results_none rfl _ _ _) rfl ?_
              exact ⟨⟨_, rfl⟩, .inr hJx4⟩
          | false =>
            replace hJg := hJg rfl
            clear hnext
            gi_wp2_with (refine ⟨trivial, ?_⟩; gi_at_call 38; refine (callsIn_wide.2 (hgood _)).mono ?_; clear hgood; rintro e w2 ⟨rfl, hb2⟩)
            refine ⟨trivial, ?_⟩
            gi_wp2
            refine ⟨fun _ h => (by cases h), ?_⟩
            gi_wp2
            go_roundw
            case rel => exact ⟨j + 1, by go_num, by omega, hJg _ (nx hb1 hb2)⟩
            case measure => simp [intOf]; omega
        · obtain rfl : j = xs.length := by omega
          rw [List.take_length, ← HT.out] at hJt
          clear HF HT hround hrdk hS h0 hJ hH hJs hSs
          gi_wp2
          go_roundw
          case rel => exact ⟨k + 1, by go_num, by omega, hJt, hSt⟩
          case measure => simp [intOf]; omega
    · obtain rfl : k = ls.length := by omega
      rw [List.take_length] at hJs
      clear hround hS h0 hJ hQ hH hSs
      gi_wp2
      go_end0
      exact ⟨⟨_, rfl⟩, .inl ⟨_, rfl, hJs⟩⟩

theorem good_gives (n : Nat) (hn : 1 ≤ n) (Bn b off cap n0 : Nat) (ls : List L3) (hl : ls.length ≤ 1000) (hl2 : ∀ p ∈ ls, p.2.2.length ≤ 1000000) (w : World) (hS : SL Bn b off cap ls w) (hB : Bn < n0) (hb : b < n0) (hlo : ∀ p ∈ ls, Lo n0 p.1 p.2.2.length) :
    Gives n 44 #[.pointer (some ⟨Bn, 0, none⟩)] (S.goods (flat ls)) n0 w := fun _ Ok mine hM hOk l J Jx W hW hJ _ hY h0 =>
  good1_in n hn l Bn b off cap ls hl hl2 (KpM Ok mine) (fun W => Ok W ∧ SL Bn b off cap ls W) (hold_of hM (fun _ _ h hb => h.later hb) (fun _ _ h hc => h.under hB hb hlo hc)) (fun _ h => h.2) J Jx W hJ hY ⟨(hM.grow w W hOk hW).1, hS.later hW⟩ h0

set_option maxHeartbeats 1000000 in
theorem goodMake_any (ao : Option Addr) (len cap : Nat) (w : World) :
    Calls Try.prog 30 #[.slice ao len cap] w fun e w' => e = .returned (.func (.func 44) #[] #[.pointer (some ⟨w.heap.size, 0, none⟩)]) ∧ w' = w.alloc (.cells #[.slice ao len cap] 22) := by
  go_enter Try.func30, Try.ntmps30
  go_wp2
  go_ret
  exact ⟨rfl, rfl⟩

/-- Lists that lie one behind the other, and read so. -/
structure RdL (w : World) (b off : Nat) (ls : List L3) : Prop where
  cells : ∀ i (h : i < ls.length), w.cell? ⟨b, off + i, none⟩ = some (.slice ls[i].1 ls[i].2.2.length ls[i].2.1)
  rd : ∀ p ∈ ls, RdR w p.1 p.2.2
  lt : b < w.heap.size
theorem RdL.later {w w' : World} {b off : Nat} {ls : List L3} (h : RdL w b off ls) (hb : Below w.heap.size w w') : RdL w' b off ls :=
  ⟨fun i hi => cell_later hb (h.cells i hi), fun p hp => (h.rd p hp).later hb, Nat.lt_of_lt_of_le h.lt hb.size⟩

/-- What is good of lists, by an iterator. -/
theorem goodSpans_gives (b off cap : Nat) (ls : List L3) (hl : ls.length ≤ 1000) (hl2 : ∀ p ∈ ls, p.2.2.length ≤ 1000000) (w : World) (hr : RdL w b off ls) :
    Calls Try.prog 30 #[.slice (some ⟨b, off, none⟩) ls.length cap] w fun e w' => ∃ v, e = .returned v ∧ Iter v (S.goods (flat ls)) w' ∧ Below w.heap.size w w' := by
  refine (goodMake_any _ ls.length cap w).mono ?_
  rintro e w' ⟨rfl, rfl⟩
  refine ⟨_, rfl, ⟨44, _, rfl, enters_of Try.func44 (by kernel_rfl) rfl, fun n hn W hW => ?_⟩, al1 w _⟩
  have h2 := hr.later (al1 w (.cells #[.slice (some ⟨b, off, none⟩) ls.length cap] 22))
  have hS : SL w.heap.size b off cap ls (w.alloc (.cells #[.slice (some ⟨b, off, none⟩) ls.length cap] 22)) := ⟨(Boxed.new w 22 _).cell, h2.cells, h2.rd⟩
  exact good_gives n hn _ b off cap _ ls hl hl2 W (hS.later hW) (by simp) h2.lt (fun p hp => (h2.rd p hp).lo)
end Go.Proofs.Ytbkcbclloemajaa
