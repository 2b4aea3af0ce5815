/- Joined: Itr Plm. -/
import Derived.Test.YtemanednddhfaaaGreatDoorMPre
import Derived.Sort.QuietIn
import Derived.Test.YtemanednddhfaaaGreatDoorMLf1
import Derived.Lib.TrailingZeros
import Derived.Shelf.Spec.TrailingZeros
import Derived.Laws.Bits64b
import Derived.Test.YtemanednddhfaaaGreatDoorMRstx
import Derived.Maps.AppendAt
namespace Go.Proofs.YtemanednddhfaaaGreatDoor
open Go.RowKit Go.Shelf
attribute [local go_sem] Oper.semAt_some
def RdC32 (w : World) (ao : Option Addr) (xs : List Int) : Prop := ∀ i (h : i < xs.length), ∃ b off, ao = some ⟨b, off, none⟩ ∧ w.cell? ⟨b, off + i, none⟩ = some (.int .i32 xs[i])
theorem RdC32.later {w wx : World} {ao : Option Addr} {xs : List Int} (h : RdC32 w ao xs) (hb : Below w.heap.size w wx) : RdC32 wx ao xs := fun i hi =>
 let ⟨b, off, e, h1⟩ := h i hi
 ⟨b, off, e, cell_later hb h1⟩
set_option maxRecDepth 100000 in
set_option maxHeartbeats 1000000 in
theorem all_make (ao : Option Addr) (n cap : Nat) (w : World) : Calls Tryz.prog 62 #[.slice ao n cap] w fun x w' => x = .returned (.func (.func 96) #[] #[.pointer (some ⟨w.heap.size, 0, none⟩)]) ∧ w' = w.alloc (.cells #[.slice ao n cap] 53) := by
 go_enter Tryz.func62, Tryz.ntmps62
 go_wp2
 go_ret
 exact ⟨rfl, rfl⟩
set_option maxRecDepth 100000 in
set_option maxHeartbeats 2000000 in
theorem all1_in (n : Nat) (hn : 1 ≤ n) (w0 : World) (ao : Option Addr) (cap : Nat) (xs : List Int) (hx : RdC32 w0 ao xs) (hlen : xs.length ≤ 1000000) (l bs : Nat) (J Stop : Nat → World → Prop) (W0 : World) (hbx : W0.heap[bs]? = some (.cells #[.slice ao xs.length cap] 53)) (hB0 : Below w0.heap.size w0 W0)
   (hY : ∀ i (hi : i < xs.length) W, J i W → Below w0.heap.size w0 W → W.heap[bs]? = some (.cells #[.slice ao xs.length cap] 53) →
     YieldAt Fence.wide (n - 1) Tryz.prog l #[.int .i64 (i : Int), .int .i32 xs[i]] W fun e W' => (e = .returned (.bool true) ∧ Below w0.heap.size w0 W' ∧ W'.heap[bs]? = some (.cells #[.slice ao xs.length cap] 53) ∧ J (i + 1) W') ∨ (e = .returned (.bool false) ∧ Stop i W'))
   (h0 : J 0 W0) :
   CallsIn Fence.wide n Tryz.prog 96 #[.func (.yield l) #[] #[], .pointer (some ⟨bs, 0, none⟩)] W0 fun e W' => (∃ v, e = .returned v) ∧ (J xs.length W' ∨ ∃ i, i < xs.length ∧ Stop i W') := by
 have cb : W0.cell? ⟨bs, 0, none⟩ = some (.slice ao xs.length cap) := by simp [World.cell?, hbx]
 refine callsIn_of_wp Tryz.func96 rfl trivial ?_ rfl
 simp only [Tryz.ntmps96, List.size_toArray, List.length_cons, List.length_nil, Nat.reduceAdd, Nat.reduceSub, Array.replicate_succ, Array.replicate_zero, List.push_toArray, List.append_toArray, List.nil_append, List.cons_append]
 gi_wp2
 gi_loopg [7] (xs.length + 1) (fun k v wr => ∃ i : Nat, v = .int .i64 (i : Int) ∧ i ≤ xs.length ∧ J i wr ∧ Below w0.heap.size w0 wr ∧ wr.heap[bs]? = some (.cells #[.slice ao xs.length cap] 53) ∧ Hid (k = xs.length - i + 1))
 case atStart => exact ⟨0, rfl, by omega, h0, hB0, hbx, hide (by omega)⟩
 case round =>
   obtain ⟨i, rfl, hi, hJ, hB, hb, HK⟩ := hrel
   by_cases hlt : i < xs.length
   · obtain ⟨b, off, rfl, hc⟩ := hx.later hB i hlt
     obtain ⟨fn, tmps, assign, body, hy, hR⟩ := hY i hlt wr hJ hB hb
     generalize xs[i] = xi at *
     have es := elemSize53
     clear hY cb hbx hB0 h0 hx
     gi_wp2
     refine hR.mono ?_
     rintro e W1 (⟨rfl, hB1, hb1, hJ1⟩ | ⟨rfl, hS⟩)
     · clear hy hR
       gi_wp2
       gi_roundg (gk - 1)
       case measure => have := HK.out; omega
       case rel => exact ⟨i + 1, by go_num, by omega, hJ1, hB1, hb1, hide (by have := HK.out; omega)⟩
     · clear hy hR
       gi_wp2
       exact bodyPost_ret (v := .tuple #[]) (by simp [results, Tryz.results96, go_sem]) rfl ⟨⟨_, rfl⟩, .inr ⟨i, hlt, hS⟩⟩
   · have hil : i = xs.length := by omega
     have HIL := hide hil
     have hge : xs.length ≤ i := by omega
     clear hil hY cb hbx hB0 h0 hx
     gi_wp2
     go_end0
     exact ⟨⟨_, rfl⟩, .inl (by rw [← HIL.out]; exact hJ)⟩
end Go.Proofs.YtemanednddhfaaaGreatDoor
namespace Go.Proofs.YtemanednddhfaaaGreatDoor
open Go.RowKit Go.Shelf
attribute [local go_sem] Oper.semAt_some
theorem Reg.faN4 {w : World} {ρ : Operand → Value} {o : Oper} {x : Operand} {b off : Nat} (hop : o.op = .fieldAddr 26 x 4) (hx : ρ x = .pointer (some ⟨b, off, none⟩)) : (execOp ρ o).run Tryz.prog w = .ok (.value (.pointer (some ⟨b, off + 4, none⟩))) w := by
 obtain ⟨dst, op, type, pos, after, guard⟩ := o
 simp only at hop
 subst hop
 simp [execOp, hx, go_sem]
theorem elemSizeN (w : World) : (sizeOf (Tryz.prog.elem 24)).run Tryz.prog w = .ok 5 w := by kernel_rfl
theorem Reg.ldM {w : World} {ρ : Operand → Value} {o : Oper} {x : Operand} {b off : Nat} {v : Value} (hop : o.op = .load 26 x) (hx : ρ x = .pointer (some ⟨b, off, none⟩)) (h : Cells5 w b off v) : (execOp ρ o).run Tryz.prog w = .ok (.value v) w := by
 obtain ⟨c0, c1, c2, c3, c4, rfl, h0, h1, h2, h3, h4⟩ := h
 have hc : w.rangeAt b off [c0, c1, c2, c3, c4] := by
   intro j v hj
   match j, hj with
   | 0, hj => obtain rfl : c0 = v := by simpa using hj
              exact h0
   | 1, hj => obtain rfl : c1 = v := by simpa using hj
              exact h1
   | 2, hj => obtain rfl : c2 = v := by simpa using hj
              exact h2
   | 3, hj => obtain rfl : c3 = v := by simpa using hj
              exact h3
   | 4, hj => obtain rfl : c4 = v := by simpa using hj
              exact h4
 exact Reg.ld hop hx hc Tryz.underlying26 rfl (by kernel_rfl)
set_option maxRecDepth 100000 in
theorem Reg.ixN {w : World} {ρ : Operand → Value} {o : Oper} {x y : Operand} {b off n c k e : Nat} (hop : o.op = .indexAddr 24 x y) (hx : ρ x = .slice (some ⟨b, off, none⟩) n c) (hy : ρ y = .int .i64 (k : Int)) (hk : k < n) (he : off + k * 5 = e) : (execOp ρ o).run Tryz.prog w = .ok (.value (.pointer (some ⟨b, e, none⟩))) w := by
 rw [← he]
 exact U.Reg.ix hop hx hy hk Tryz.underlying24 (elemSizeN w)
end Go.Proofs.YtemanednddhfaaaGreatDoor
