/- slices.Chunk, two by two: its iterator. -/
import Derived.Test.YtfbojpodaddaeaaRegt
import Derived.Test.YtfbojpodaddaeaaColl
namespace Go.Proofs.Ytfbojpodaddaeaa
open Go.RowKit Go.Shelf
attribute [local go_sem] Oper.semAt_some

set_option maxRecDepth 100000 in
set_option maxHeartbeats 4000000 in
theorem chunk1_in (n : Nat) (hn : 1 ≤ n) (l Bs Bn b m N : Nat) (hN : Hid (N = m * 2)) (hm : m ≤ 1000) (J : Nat → World → Prop)
    (hbox : ∀ k W, J k W → W.cell? ⟨Bs, 0, none⟩ = some (.slice (some ⟨b, 0, none⟩) N N) ∧ W.cell? ⟨Bn, 0, none⟩ = some (.int .i64 2))
    (hgrow : ∀ k A B, J k A → Below A.heap.size A B → J k B)
    (W : World)
    (hY : ∀ k W1, J k W1 → k < m → YieldAt Fence.wide (n - 1) Try.prog l #[.slice (some ⟨b, k * 2, none⟩) 2 2] W1 fun e W' => e = .returned (.bool true) ∧ J (k + 1) W')
    (h0 : J 0 W) :
    CallsIn Fence.wide n Try.prog 46 #[.func (.yield l) #[] #[], .pointer (some ⟨Bs, 0, none⟩), .pointer (some ⟨Bn, 0, none⟩)] W fun e W' => (∃ v, e = .returned v) ∧ J m W' := by
  refine callsIn_of_wp Try.func46 rfl trivial ?_ rfl
  simp only [Try.ntmps46, List.size_toArray, List.length_cons, List.length_nil, Nat.reduceAdd, Nat.reduceSub, Array.replicate_succ, Array.replicate_zero, List.push_toArray, List.append_toArray, List.nil_append, List.cons_append]
  gi_wp2
  gi_loopw [4] (fun p wr => ∃ k q : Nat, p = .int .i64 (q : Int) ∧ Hid (q = k * 2) ∧ k ≤ m ∧ J k wr) (fun p _ => N - (intOf p).toNat)
  case atStart => exact ⟨0, 0, rfl, hide rfl, Nat.zero_le _, h0⟩
  case round =>
    obtain ⟨k, q, rfl, hq, hk, hJ⟩ := hrel
    obtain ⟨hb1, hb2⟩ := hbox _ _ hJ
    by_cases hlt : k < m
    · have hqN : q + 2 ≤ N := by have := hq.out; have := hN.out; omega
      have hN2 : N ≤ 2000 := by have := hN.out; omega
      have hmn : min (2 : Int) ((N - q : Nat) : Int) = 2 := by omega
      have hw2 : IntKind.i64.wrap ((q : Int) + 2) = ((q + 2 : Nat) : Int) := by simp [IntKind.wrap, IntKind.bits, IntKind.signed]; omega
      have hnext : ∀ nq, ∃ fn tmps assign body, (Instr.yield l #[.slice (some ⟨b, q, none⟩) 2 2]).run Try.prog (wr.drewN nq) = .ok (.round l fn tmps assign body) (wr.drewN nq) ∧
          RoundIn Fence.wide (n - 1) Try.prog l fn tmps assign body (wr.drewN nq) (fun e W' => e = .returned (.bool true) ∧ J (k + 1) W') := by
        intro nq
        have h1 := hY k (wr.drewN nq) (hgrow _ _ _ hJ (below_drewN (Below.refl _ wr) nq)) hlt
        rw [← hq.out] at h1
        exact h1
      have hbx : ∀ W, J (k + 1) W → W.cell? ⟨Bn, 0, none⟩ = some (.int .i64 2) := fun W h => (hbox _ _ h).2
      have hq2 : Hid (q + 2 = (k + 1) * 2) := hide (by have := hq.out; omega)
      clear hY hJ hgrow h0 hbox hq
      gi_wp2
      gi_big_quiet (fail)
      obtain ⟨fn, tmps, assign, body, hy, hR⟩ := hnext nq
      clear hnext
      gi_wp2
      refine hR.mono ?_
      rintro e W3 ⟨rfl, hJ3⟩
      have hb3 := hbx _ hJ3
      clear hR hy hbx
      gi_wp2
      go_roundw
      case rel => exact ⟨k + 1, q + 2, by go_num, hq2, by omega, hJ3⟩
      case measure => simp [intOf]; omega
    · obtain rfl : k = m := by omega
      have hqN : q = N := by have := hq.out; have := hN.out; omega
      subst hqN
      clear hY hgrow h0 hbox hq hN
      gi_wp2
      go_end0
      exact ⟨⟨_, rfl⟩, hJ⟩

set_option maxHeartbeats 1000000 in
theorem chunkMake_any (ao : Option Addr) (len cap : Nat) (w : World) :
    Calls Try.prog 41 #[.slice ao len cap, .int .i64 2] w fun e w' => e = .returned (.func (.func 46) #[] #[.pointer (some ⟨w.heap.size, 0, none⟩), .pointer (some ⟨w.heap.size + 1, 0, none⟩)]) ∧ w' = (w.alloc (.cells #[.slice ao len cap] 67)).alloc (.cells #[.int .i64 2] 3) := by
  go_enter Try.func41, Try.ntmps41
  go_wp2
  go_ret
  exact ⟨rfl, rfl⟩
end Go.Proofs.Ytfbojpodaddaeaa
