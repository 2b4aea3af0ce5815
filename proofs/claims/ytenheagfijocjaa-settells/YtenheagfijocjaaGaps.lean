/- The iterator over what the code space has and a set hasn't. -/
import Derived.Test.YtenheagfijocjaaVals
namespace Go.Proofs.Ytenheagfijocjaa
open Go.RowKit Go.Shelf
attribute [local go_sem] Oper.semAt_some

/-- What the iterator reads: the box of the space, the box of its slice, the spans. -/
structure SG (Bs Bn : Nat) (ao : Option Addr) (cap : Nat) (xs : List S.R) (W : World) : Prop where
  lo : W.cell? ⟨Bs, 0, none⟩ = some (.int .i32 0)
  hi : W.cell? ⟨Bs, 1, none⟩ = some (.int .i32 1114111)
  box : W.cell? ⟨Bn, 0, none⟩ = some (.slice ao xs.length cap)
  rd : RdR W ao xs
theorem SG.later {Bs Bn : Nat} {ao : Option Addr} {cap : Nat} {xs : List S.R} {W W' : World} (h : SG Bs Bn ao cap xs W) (hb : Below W.heap.size W W') : SG Bs Bn ao cap xs W' :=
  ⟨cell_later hb h.lo, cell_later hb h.hi, cell_later hb h.box, h.rd.later hb⟩
theorem SG.under {Bs Bn n0 : Nat} {ao : Option Addr} {cap : Nat} {xs : List S.R} {A B : World} (hs : Bs < n0) (hn : Bn < n0) (hlo : Lo n0 ao xs.length) (h : SG Bs Bn ao cap xs A) (hc : ∀ a v, a.block < n0 → A.cell? a = some v → B.cell? a = some v) : SG Bs Bn ao cap xs B :=
  ⟨hc _ _ hs h.lo, hc _ _ hs h.hi, hc _ _ hn h.box, h.rd.under hlo hc⟩
theorem cells_two {W : World} {k : Nat} {u v : Value} {t : TypeId} (h : W.heap[k]? = some (.cells #[u, v] t)) : W.cell? ⟨k, 0, none⟩ = some u ∧ W.cell? ⟨k, 1, none⟩ = some v := by
  simp [World.cell?, h]

set_option maxRecDepth 100000 in
set_option maxHeartbeats 4000000 in
theorem gaps1_in (n : Nat) (hn : 1 ≤ n) (l Bs Bn : Nat) (ao : Option Addr) (cap : Nat) (xs : List S.R) (hl : xs.length ≤ 1000000) (hC : S.Canon xs) (Kp : World → World → Prop) (Q : World → Prop) (hH : Hold Kp Q) (hQ : ∀ W, Q W → SG Bs Bn ao cap xs W) (J Jx : List S.R → World → Prop)
    (W : World) (hJ : AbidesFrom W.heap.size J)
    (hY : ∀ pre x W1, J pre W1 → pre.length < (S.gaps 0 xs).length → YieldAt Fence.wide (n - 1) Try.prog l (encP x) W1 fun e W' =>
      (e = .returned (.bool true) ∧ J (pre ++ [x]) W' ∧ Kp W1 W') ∨ (e = .returned (.bool false) ∧ Jx (pre ++ [x]) W'))
    (hS : Q W) (h0 : J [] W) :
    CallsIn Fence.wide n Try.prog 49 #[.func (.yield l) #[] #[], .pointer (some ⟨Bs, 0, none⟩), .pointer (some ⟨Bn, 0, none⟩)] W fun e W' => (∃ v, e = .returned v) ∧
      ((∃ ys, ys = S.gaps 0 xs ∧ J ys W') ∨ (∃ pre, pre <+: S.gaps 0 xs ∧ Jx pre W')) := by
  refine callsIn_of_wp Try.func49 rfl trivial ?_ rfl
  simp only [Try.ntmps49, List.size_toArray, List.length_cons, List.length_nil, Nat.reduceAdd, Nat.reduceSub, Array.replicate_succ, Array.replicate_zero, List.push_toArray, List.append_toArray, List.nil_append, List.cons_append]
  have hbox0 := (hQ _ hS).box
  have hlo0 := (hQ _ hS).lo
  gi_wp2
  clear hbox0 hlo0
  have hround : ∀ (pre : List S.R) (x : S.R) (post : List S.R) (w1 : World) (s1 s2 : Int), Hid (S.gaps 0 xs = pre ++ (x :: post)) → J pre w1 → Q w1 → ∃ fn tmps assign body, (Instr.yield l #[.agg #[.int .i32 x.1, .int .i32 x.2]]).run Try.prog (w1.alloc (.cells #[.int .i32 s1, .int .i32 s2] 56)) = .ok (.round l fn tmps assign body) (w1.alloc (.cells #[.int .i32 s1, .int .i32 s2] 56)) ∧
      RoundIn Fence.wide (n - 1) Try.prog l fn tmps assign body (w1.alloc (.cells #[.int .i32 s1, .int .i32 s2] 56)) (fun e W' => (e = .returned (.bool true) ∧ J (pre ++ [x]) W' ∧ Q W' ∧ W'.cell? ⟨w1.heap.size, 1, none⟩ = some (.int .i32 s2)) ∨ (e = .returned (.bool false) ∧ Jx (pre ++ [x]) W')) := by
    intro pre x post w1 s1 s2 HP hJ1 hS1
    have hb2 := al1 w1 (.cells #[.int .i32 s1, .int .i32 s2] 56)
    have hJ2 : J pre _ := hJ _ w1 _ none hJ1 (grown_below hb2 none) (fun r e => by cases e)
    have hS2 := hH.grow _ _ hS1 hb2
    obtain ⟨fn, tmps, assign, body, hy, hR⟩ := hY _ x _ hJ2 (by rw [HP.out]; simp)
    refine ⟨fn, tmps, assign, body, hy, hR.mono ?_⟩
    rintro e W' (⟨h1, h2, h3⟩ | h)
    · exact .inl ⟨h1, h2, hH.step _ _ hS2 h3, (cells_two (hH.fresh _ _ _ _ hS1 h3)).2⟩
    · exact .inr h
  have hend : ∀ (pre : List S.R) (x : S.R) (w1 : World), Hid (S.gaps 0 xs = pre ++ [x]) → J pre w1 → ∃ fn tmps assign body, (Instr.yield l #[.agg #[.int .i32 x.1, .int .i32 x.2]]).run Try.prog w1 = .ok (.round l fn tmps assign body) w1 ∧
      RoundIn Fence.wide (n - 1) Try.prog l fn tmps assign body w1 (fun e W' => (∃ b, e = .returned (.bool b)) ∧ (J (S.gaps 0 xs) W' ∨ Jx (S.gaps 0 xs) W')) := by
    intro pre x w1 HP hJ1
    obtain ⟨fn, tmps, assign, body, hy, hR⟩ := hY _ x _ hJ1 (by rw [HP.out]; simp)
    refine ⟨fn, tmps, assign, body, hy, hR.mono ?_⟩
    rw [HP.out]
    rintro e W' (⟨h1, h2, h3⟩ | ⟨h1, h2⟩)
    · exact ⟨⟨_, h1⟩, .inl h2⟩
    · exact ⟨⟨_, h1⟩, .inr h2⟩
  clear hY
  gi_loopw [4, 11] (fun f p wr => ∃ (pre : List S.R) (k : Nat) (f0 : Int), f = .int .i32 f0 ∧ p = .int .i64 (k : Int) ∧ k ≤ xs.length ∧ 0 ≤ f0 ∧ f0 ≤ 1114111 ∧ Hid (S.gaps 0 xs = pre ++ S.gaps f0 (xs.drop k)) ∧ J pre wr ∧ Q wr) (fun _ p _ => xs.length - (intOf p).toNat)
  case atStart => exact ⟨[], 0, 0, rfl, rfl, Nat.zero_le _, by omega, by omega, rfl, h0, hS⟩
  case round =>
    obtain ⟨pre, k, f0, rfl, rfl, hk, hf0, hf1, HP, hJs, hSs⟩ := hrel
    have hhi := (hQ _ hSs).hi
    by_cases hlt : k < xs.length
    · obtain ⟨b, off, rfl, hc1, hc2⟩ := (hQ _ hSs).rd k hlt
      have hg := (S.good_iff _).1 (hC.good xs[k] (List.getElem_mem hlt))
      rw [List.drop_eq_getElem_cons hlt] at HP
      generalize xs[k] = s at *
      obtain ⟨s1, s2⟩ := s
      simp only at hg hc1 hc2
      have hw1 : IntKind.i32.wrap (s1 - 1) = s1 - 1 := by simp [IntKind.wrap, IntKind.bits, IntKind.signed]; omega
      have hw2 : IntKind.i32.wrap (s2 + 1) = s2 + 1 := by simp [IntKind.wrap, IntKind.bits, IntKind.signed]; omega
      by_cases hfs : f0 < s1
      · have HQ : Hid (S.gaps 0 xs = pre ++ ((f0, s1 - 1) :: (if s2 = 1114111 then [] else S.gaps (s2 + 1) (xs.drop (k + 1))))) := by
          show _ = _
          rw [HP.out]; simp [S.gaps, hfs]
        clear HP
        obtain ⟨fn, tmps, assign, body, hy, hR⟩ := hround pre (f0, s1 - 1) _ wr s1 s2 HQ hJs hSs
        clear hround hend hJs hSs hS h0 hJ
        gi_wp2
        refine hR.mono ?_
        rintro e W3 (⟨rfl, hJ3, hS3, hb3⟩ | ⟨rfl, hJx3⟩)
        · have hhi3 := (hQ _ hS3).hi
          clear hQ hH hR hy
          by_cases hs2 : s2 = 1114111
          · rw [if_pos hs2] at HQ
            subst hs2
            gi_wp2
            refine bodyPost_ret (results_none rfl _ _ _) rfl ?_
            exact ⟨⟨_, rfl⟩, .inl ⟨_, HQ.out.symm, hJ3⟩⟩
          · have hne : (s2 == 1114111) = false := by simp; exact hs2
            rw [if_neg hs2] at HQ
            gi_wp2
            go_roundw
            case rel => exact ⟨_, k + 1, s2 + 1, rfl, by go_num, by omega, by omega, by omega, by rw [List.append_assoc]; exact HQ, hJ3, hS3⟩
            case measure => simp [intOf]; omega
        · clear hQ hH hR hy
          gi_wp2
          refine bodyPost_ret (results_none rfl _ _ _) rfl ?_
          exact ⟨⟨_, rfl⟩, .inr ⟨_, ⟨_, by rw [List.append_assoc]; exact HQ.out.symm⟩, hJx3⟩⟩
      · have HQ : Hid (S.gaps 0 xs = pre ++ (if s2 = 1114111 then [] else S.gaps (s2 + 1) (xs.drop (k + 1)))) := by
          show _ = _
          rw [HP.out]; simp [S.gaps, hfs]
        have hb2 := al1 wr (.cells #[.int .i32 s1, .int .i32 s2] 56)
        have hJ2 : J pre _ := hJ _ wr _ none hJs (grown_below hb2 none) (fun r e => by cases e)
        have hS2 := hH.grow _ _ hSs hb2
        have hfs' : s1 ≤ f0 := by omega
        have hhi2 := cell_later hb2 hhi
        clear HP hround hend hJs hSs hS h0 hJ hQ hH
        by_cases hs2 : s2 = 1114111
        · rw [if_pos hs2, List.append_nil] at HQ
          subst hs2
          gi_wp2
          refine ⟨fun _ h => (by cases h), ?_⟩
          gi_wp2
          refine bodyPost_ret (results_none rfl _ _ _) rfl ?_
          exact ⟨⟨_, rfl⟩, .inl ⟨_, HQ.out.symm, hJ2⟩⟩
        · have hne : (s2 == 1114111) = false := by simp; exact hs2
          rw [if_neg hs2] at HQ
          gi_wp2
          refine ⟨fun _ h => (by cases h), ?_⟩
          gi_wp2
          go_roundw
          case rel => exact ⟨_, k + 1, s2 + 1, rfl, by go_num, by omega, by omega, by omega, HQ, hJ2, hS2⟩
          case measure => simp [intOf]; omega
    · obtain rfl : k = xs.length := by omega
      rw [List.drop_length] at HP
      obtain ⟨fn, tmps, assign, body, hy, hR⟩ := hend pre (f0, 1114111) wr HP hJs
      clear hround hend hJs hSs hS h0 hJ hQ hH
      gi_wp2
      refine hR.mono ?_
      rintro e W3 ⟨⟨b, rfl⟩, h3⟩
      gi_wp2
      go_end0
      rcases h3 with h3 | h3
      · exact ⟨⟨_, rfl⟩, .inl ⟨_, rfl, h3⟩⟩
      · exact ⟨⟨_, rfl⟩, .inr ⟨_, List.prefix_refl _, h3⟩⟩

theorem gaps_gives (n : Nat) (hn : 1 ≤ n) (Bs Bn n0 : Nat) (ao : Option Addr) (cap : Nat) (xs : List S.R) (hl : xs.length ≤ 1000000) (hC : S.Canon xs) (w : World) (hS : SG Bs Bn ao cap xs w) (hs : Bs < n0) (hB : Bn < n0) (hlo : Lo n0 ao xs.length) :
    Gives n 49 #[.pointer (some ⟨Bs, 0, none⟩), .pointer (some ⟨Bn, 0, none⟩)] (S.gaps 0 xs) n0 w := fun _ Ok mine hM hOk l J Jx W hW hJ _ hY h0 =>
  gaps1_in n hn l Bs Bn ao cap xs hl hC (KpM Ok mine) (fun W => Ok W ∧ SG Bs Bn ao cap xs W) (hold_of hM (fun _ _ h hb => h.later hb) (fun _ _ h hc => h.under hs hB hlo hc)) (fun _ h => h.2) J Jx W hJ hY ⟨(hM.grow w W hOk hW).1, hS.later hW⟩ h0

set_option maxHeartbeats 1000000 in
theorem gapsMake_any (ao : Option Addr) (len cap : Nat) (w : World) :
    Calls Try.prog 40 #[.slice ao len cap, .agg #[.int .i32 0, .int .i32 1114111]] w fun e w' => e = .returned (.func (.func 49) #[] #[.pointer (some ⟨w.heap.size + 1, 0, none⟩), .pointer (some ⟨w.heap.size, 0, none⟩)]) ∧ w' = (w.alloc (.cells #[.slice ao len cap] 49)).alloc (.cells #[.int .i32 0, .int .i32 1114111] 56) := by
  go_enter Try.func40, Try.ntmps40
  go_wp2
  go_ret
  exact ⟨rfl, rfl⟩

/-- What the code space has and the set hasn't, by an iterator. -/
theorem gapsOf_gives (ao : Option Addr) (xs : List S.R) (cap : Nat) (hl : xs.length ≤ 1000000) (hC : S.Canon xs) (w : World) (hr : RdR w ao xs) :
    Calls Try.prog 40 #[.slice ao xs.length cap, .agg #[.int .i32 0, .int .i32 1114111]] w fun e w' => ∃ v, e = .returned v ∧ Iter v (S.gaps 0 xs) w' ∧ Below w.heap.size w w' := by
  refine (gapsMake_any ao xs.length cap w).mono ?_
  rintro e w' ⟨rfl, rfl⟩
  refine ⟨_, rfl, ⟨49, _, rfl, enters_of Try.func49 (by kernel_rfl) rfl, fun n hn W hW => ?_⟩, al2 w _ _⟩
  have h2 := cells_two (World.alloc_heap_new (w.alloc (.cells #[.slice ao xs.length cap] 49)) (.cells #[.int .i32 0, .int .i32 1114111] 56))
  rw [World.size_alloc] at h2
  have hS : SG (w.heap.size + 1) w.heap.size ao cap xs ((w.alloc (.cells #[.slice ao xs.length cap] 49)).alloc (.cells #[.int .i32 0, .int .i32 1114111] 56)) :=
    ⟨h2.1, h2.2, ((Boxed.new w 49 _).alloc _).cell, hr.later (al2 w _ _)⟩
  exact gaps_gives n hn _ _ _ ao cap xs hl hC W (hS.later hW) (by simp) (by simp; omega) (hr.lo.mono (by simp; omega))
end Go.Proofs.Ytenheagfijocjaa
