/- The iterator over a slice's spans (slices.Values). -/
import Derived.Test.YtbkcbclloemajaaRd
namespace Go.Proofs.Ytbkcbclloemajaa
open Go.RowKit Go.Shelf
attribute [local go_sem] Oper.semAt_some

/-- What the iterator reads: the box of its slice, the spans. -/
structure SV (Bn : Nat) (ao : Option Addr) (cap : Nat) (xs : List S.R) (W : World) : Prop where
  box : W.cell? ⟨Bn, 0, none⟩ = some (.slice ao xs.length cap)
  rd : RdR W ao xs
theorem SV.later {Bn : Nat} {ao : Option Addr} {cap : Nat} {xs : List S.R} {W W' : World} (h : SV Bn ao cap xs W) (hb : Below W.heap.size W W') : SV Bn ao cap xs W' :=
  ⟨cell_later hb h.box, h.rd.later hb⟩
theorem SV.under {Bn n0 : Nat} {ao : Option Addr} {cap : Nat} {xs : List S.R} {A B : World} (hn : Bn < n0) (hlo : Lo n0 ao xs.length) (h : SV Bn ao cap xs A) (hc : ∀ a v, a.block < n0 → A.cell? a = some v → B.cell? a = some v) : SV Bn ao cap xs B :=
  ⟨hc _ _ hn h.box, h.rd.under hlo hc⟩

set_option maxRecDepth 100000 in
set_option maxHeartbeats 2000000 in
theorem vals1_in (n : Nat) (hn : 1 ≤ n) (l Bn : Nat) (ao : Option Addr) (cap : Nat) (xs : List S.R) (hl : xs.length ≤ 1000000) (Kp : World → World → Prop) (Q : World → Prop) (hH : Hold Kp Q) (hQ : ∀ W, Q W → SV Bn ao cap xs W) (J Jx : List S.R → World → Prop)
    (W : World) (hJ : AbidesFrom W.heap.size J)
    (hY : ∀ pre x W1, J pre W1 → pre.length < xs.length → YieldAt Fence.wide (n - 1) Try.prog l (encP x) W1 fun e W' =>
      (e = .returned (.bool true) ∧ J (pre ++ [x]) W' ∧ Kp W1 W') ∨ (e = .returned (.bool false) ∧ Jx (pre ++ [x]) W'))
    (hS : Q W) (h0 : J [] W) :
    CallsIn Fence.wide n Try.prog 46 #[.func (.yield l) #[] #[], .pointer (some ⟨Bn, 0, none⟩)] W fun e W' => (∃ v, e = .returned v) ∧
      ((∃ ys, ys = xs ∧ J ys W') ∨ (∃ pre, pre <+: xs ∧ Jx pre W')) := by
  refine callsIn_of_wp Try.func46 rfl trivial ?_ rfl
  simp only [Try.ntmps46, List.size_toArray, List.length_cons, List.length_nil, Nat.reduceAdd, Nat.reduceSub, Array.replicate_succ, Array.replicate_zero, List.push_toArray, List.append_toArray, List.nil_append, List.cons_append]
  have hbox0 := (hQ _ hS).box
  gi_wp2
  gi_loopw [7] (fun p wr => ∃ k : Nat, p = .int .i64 (k : Int) ∧ k ≤ xs.length ∧ J (xs.take k) wr ∧ Q wr) (fun p _ => xs.length - (intOf p).toNat)
  case atStart => exact ⟨0, rfl, Nat.zero_le _, h0, hS⟩
  case round =>
    obtain ⟨k, rfl, hk, hJs, hSs⟩ := hrel
    by_cases hlt : k < xs.length
    · obtain ⟨b, off, rfl, hc1, hc2⟩ := (hQ _ hSs).rd k hlt
      have hT : xs.take k ++ [xs[k]] = xs.take (k + 1) := by rw [List.take_succ_eq_append_getElem hlt]
      have hpl : (xs.take k).length < xs.length := by rw [List.length_take]; omega
      have hnext : ∀ w2 : World, Below wr.heap.size wr w2 → ∃ fn tmps assign body, (Instr.yield l #[.agg #[.int .i32 xs[k].1, .int .i32 xs[k].2]]).run Try.prog w2 = .ok (.round l fn tmps assign body) w2 ∧
          RoundIn Fence.wide (n - 1) Try.prog l fn tmps assign body w2 (fun e W' => (e = .returned (.bool true) ∧ J (xs.take (k + 1)) W' ∧ Q W') ∨ (e = .returned (.bool false) ∧ Jx (xs.take (k + 1)) W')) := by
        intro w2 hb2
        have hJ2 : J (xs.take k) w2 := hJ _ wr w2 none hJs (grown_below hb2 none) (fun r e => by cases e)
        have hS2 := hH.grow _ _ hSs hb2
        obtain ⟨fn, tmps, assign, body, hy, hR⟩ := hY _ xs[k] w2 hJ2 hpl
        refine ⟨fn, tmps, assign, body, hy, hR.mono ?_⟩
        rw [hT]
        rintro e W' (⟨h1, h2, h3⟩ | h)
        · exact .inl ⟨h1, h2, hH.step _ _ hS2 h3⟩
        · exact .inr h
      obtain ⟨fn, tmps, assign, body, hy, hR⟩ := hnext _ (al1 wr (.cells #[.int .i32 xs[k].1, .int .i32 xs[k].2] 76))
      clear hY hJs hSs hS h0 hJ hnext hbox0 hH hQ
      generalize xs[k].1 = x1 at *
      generalize xs[k].2 = x2 at *
      gi_wp2
      refine hR.mono ?_
      rintro e W3 (⟨rfl, hJ3, hS3⟩ | ⟨rfl, hJx3⟩)
      · gi_wp2
        go_roundw
        case rel => exact ⟨k + 1, by go_num, by omega, hJ3, hS3⟩
        case measure => simp [intOf]; omega
      · gi_wp2
        refine bodyPost_ret (results_none rfl _ _ _) rfl ?_
        exact ⟨⟨_, rfl⟩, .inr ⟨_, List.take_prefix _ _, hJx3⟩⟩
    · obtain rfl : k = xs.length := by omega
      rw [List.take_length] at hJs
      gi_wp2
      go_end0
      exact ⟨⟨_, rfl⟩, .inl ⟨_, rfl, hJs⟩⟩

theorem vals_gives (n : Nat) (hn : 1 ≤ n) (Bn n0 : Nat) (ao : Option Addr) (cap : Nat) (xs : List S.R) (hl : xs.length ≤ 1000000) (w : World) (hS : SV Bn ao cap xs w) (hB : Bn < n0) (hlo : Lo n0 ao xs.length) :
    Gives n 46 #[.pointer (some ⟨Bn, 0, none⟩)] xs n0 w := fun _ Ok mine hM hOk l J Jx W hW hJ _ hY h0 =>
  vals1_in n hn l Bn ao cap xs hl (KpM Ok mine) (fun W => Ok W ∧ SV Bn ao cap xs W) (hold_of hM (fun _ _ h hb => h.later hb) (fun _ _ h hc => h.under hB hlo hc)) (fun _ h => h.2) J Jx W hJ hY ⟨(hM.grow w W hOk hW).1, hS.later hW⟩ h0

set_option maxHeartbeats 1000000 in
theorem values_any (ao : Option Addr) (len cap : Nat) (w : World) :
    Calls Try.prog 37 #[.slice ao len cap] w fun e w' => e = .returned (.func (.func 46) #[] #[.pointer (some ⟨w.heap.size, 0, none⟩)]) ∧ w' = w.alloc (.cells #[.slice ao len cap] 80) := by
  go_enter Try.func37, Try.ntmps37
  go_wp2
  go_ret
  exact ⟨rfl, rfl⟩

/-- What a function that hands back an iterator gives. -/
def Iter (v : Value) (zs : List S.R) (w : World) : Prop :=
  ∃ g lb, v = .func (.func g) #[] lb ∧ (∀ args w, (callFunc g args).run Try.prog w = .ok (.enter g args) w) ∧ ∀ n, 1 ≤ n → ∀ W, Below w.heap.size w W → Gives n g lb zs w.heap.size W

/-- slices.Values: an iterator that gives the spans, whatever is made behind it. -/
theorem values_gives (ao : Option Addr) (xs : List S.R) (cap : Nat) (hl : xs.length ≤ 1000000) (w : World) (hr : RdR w ao xs) :
    Calls Try.prog 37 #[.slice ao xs.length cap] w fun e w' => ∃ v, e = .returned v ∧ Iter v xs w' ∧ Below w.heap.size w w' := by
  refine (values_any ao xs.length cap w).mono ?_
  rintro e w' ⟨rfl, rfl⟩
  refine ⟨_, rfl, ⟨46, _, rfl, enters_of Try.func46 (by kernel_rfl) rfl, fun n hn W hW => ?_⟩, al1 w _⟩
  have hS : SV w.heap.size ao cap xs (w.alloc (.cells #[.slice ao xs.length cap] 80)) := ⟨(Boxed.new w 80 _).cell, hr.later (al1 w _)⟩
  exact vals_gives n hn w.heap.size _ ao cap xs hl W (hS.later hW) (by simp) (hr.lo.mono (by simp))
end Go.Proofs.Ytbkcbclloemajaa
