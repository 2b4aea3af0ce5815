/- The iterators over a text's code points: slices.All and slices.Backward. -/
import Derived.Test.YteaaijhppmkfeaaGreatDoorTPre
import Derived.Sort.QuietIn
namespace Go.Proofs.YteaaijhppmkfeaaGreatDoor
open Go.RowKit Go.Shelf
attribute [local go_sem] Oper.semAt_some
def RdC32 (w : World) (ao : Option Addr) (xs : List Int) : Prop := ∀ i (h : i < xs.length), ∃ b off, ao = some ⟨b, off, none⟩ ∧ w.cell? ⟨b, off + i, none⟩ = some (.int .i32 xs[i])
theorem RdC32.later {w wx : World} {ao : Option Addr} {xs : List Int} (h : RdC32 w ao xs) (hb : Below w.heap.size w wx) : RdC32 wx ao xs := fun i hi =>
 let ⟨b, off, e, h1⟩ := h i hi
 ⟨b, off, e, cell_later hb h1⟩
set_option maxRecDepth 100000 in
set_option maxHeartbeats 1000000 in
theorem all_make (ao : Option Addr) (n cap : Nat) (w : World) : Calls Tryz.prog 67 #[.slice ao n cap] w fun x w' => x = .returned (.func (.func 99) #[] #[.pointer (some ⟨w.heap.size, 0, none⟩)]) ∧ w' = w.alloc (.cells #[.slice ao n cap] 44) := by
 go_enter Tryz.func67, Tryz.ntmps67
 go_wp2
 go_ret
 exact ⟨rfl, rfl⟩
set_option maxRecDepth 100000 in
set_option maxHeartbeats 1000000 in
theorem back_make (ao : Option Addr) (n cap : Nat) (w : World) : Calls Tryz.prog 70 #[.slice ao n cap] w fun x w' => x = .returned (.func (.func 101) #[] #[.pointer (some ⟨w.heap.size, 0, none⟩)]) ∧ w' = w.alloc (.cells #[.slice ao n cap] 44) := by
 go_enter Tryz.func70, Tryz.ntmps70
 go_wp2
 go_ret
 exact ⟨rfl, rfl⟩
set_option maxRecDepth 100000 in
set_option maxHeartbeats 2000000 in
theorem all1_in (n : Nat) (hn : 1 ≤ n) (w0 : World) (ao : Option Addr) (cap : Nat) (xs : List Int) (hx : RdC32 w0 ao xs) (hlen : xs.length ≤ 1000000) (l bs : Nat) (J Stop : Nat → World → Prop) (W0 : World) (hbx : W0.heap[bs]? = some (.cells #[.slice ao xs.length cap] 44)) (hB0 : Below w0.heap.size w0 W0)
   (hY : ∀ i (hi : i < xs.length) W, J i W → Below w0.heap.size w0 W → W.heap[bs]? = some (.cells #[.slice ao xs.length cap] 44) →
     YieldAt Fence.wide (n - 1) Tryz.prog l #[.int .i64 (i : Int), .int .i32 xs[i]] W fun e W' => (e = .returned (.bool true) ∧ Below w0.heap.size w0 W' ∧ W'.heap[bs]? = some (.cells #[.slice ao xs.length cap] 44) ∧ J (i + 1) W') ∨ (e = .returned (.bool false) ∧ Stop i W'))
   (h0 : J 0 W0) :
   CallsIn Fence.wide n Tryz.prog 99 #[.func (.yield l) #[] #[], .pointer (some ⟨bs, 0, none⟩)] W0 fun e W' => (∃ v, e = .returned v) ∧ (J xs.length W' ∨ ∃ i, i < xs.length ∧ Stop i W') := by
 have cb : W0.cell? ⟨bs, 0, none⟩ = some (.slice ao xs.length cap) := by simp [World.cell?, hbx]
 refine callsIn_of_wp Tryz.func99 rfl trivial ?_ rfl
 simp only [Tryz.ntmps99, List.size_toArray, List.length_cons, List.length_nil, Nat.reduceAdd, Nat.reduceSub, Array.replicate_succ, Array.replicate_zero, List.push_toArray, List.append_toArray, List.nil_append, List.cons_append]
 gi_wp2
 gi_loopg [7] (xs.length + 1) (fun k v wr => ∃ i : Nat, v = .int .i64 (i : Int) ∧ i ≤ xs.length ∧ J i wr ∧ Below w0.heap.size w0 wr ∧ wr.heap[bs]? = some (.cells #[.slice ao xs.length cap] 44) ∧ Hid (k = xs.length - i + 1))
 case atStart => exact ⟨0, rfl, by omega, h0, hB0, hbx, hide (by omega)⟩
 case round =>
   obtain ⟨i, rfl, hi, hJ, hB, hb, HK⟩ := hrel
   by_cases hlt : i < xs.length
   · obtain ⟨b, off, rfl, hc⟩ := hx.later hB i hlt
     obtain ⟨fn, tmps, assign, body, hy, hR⟩ := hY i hlt wr hJ hB hb
     generalize xs[i] = xi at *
     have es := elemSize44
     clear hY cb hbx hB0 h0 hx
     gi_wp2
     refine hR.mono ?_
     rintro e W1 (⟨rfl, hB1, hb1, hJ1⟩ | ⟨rfl, hS⟩)
     · clear hy hR
       gi_wp2
       gi_roundg (gk - 1)
       case measure => have := HK.out; omega
       case rel => exact ⟨i + 1, by go_num, by omega, hJ1, hB1, hb1, hide (by have := HK.out; omega)⟩
     · clear hy hR
       gi_wp2
       exact bodyPost_ret (v := .tuple #[]) (by simp [results, Tryz.results99, go_sem]) rfl ⟨⟨_, rfl⟩, .inr ⟨i, hlt, hS⟩⟩
   · have hil : i = xs.length := by omega
     have HIL := hide hil
     have hge : xs.length ≤ i := by omega
     clear hil hY cb hbx hB0 h0 hx
     gi_wp2
     go_end0
     exact ⟨⟨_, rfl⟩, .inl (by rw [← HIL.out]; exact hJ)⟩
set_option maxRecDepth 100000 in
set_option maxHeartbeats 2000000 in
theorem back1_in (n : Nat) (hn : 1 ≤ n) (w0 : World) (ao : Option Addr) (cap : Nat) (xs : List Int) (hx : RdC32 w0 ao xs) (hlen : xs.length ≤ 1000000) (l bs : Nat) (J Stop : Nat → World → Prop) (W0 : World) (hbx : W0.heap[bs]? = some (.cells #[.slice ao xs.length cap] 44)) (hB0 : Below w0.heap.size w0 W0)
   (hY : ∀ i (hi : i < xs.length) W, J i W → Below w0.heap.size w0 W → W.heap[bs]? = some (.cells #[.slice ao xs.length cap] 44) →
     YieldAt Fence.wide (n - 1) Tryz.prog l #[.int .i64 ((xs.length - 1 - i : Nat) : Int), .int .i32 (xs[xs.length - 1 - i]'(by omega))] W fun e W' => (e = .returned (.bool true) ∧ Below w0.heap.size w0 W' ∧ W'.heap[bs]? = some (.cells #[.slice ao xs.length cap] 44) ∧ J (i + 1) W') ∨ (e = .returned (.bool false) ∧ Stop i W'))
   (h0 : J 0 W0) :
   CallsIn Fence.wide n Tryz.prog 101 #[.func (.yield l) #[] #[], .pointer (some ⟨bs, 0, none⟩)] W0 fun e W' => (∃ v, e = .returned v) ∧ (J xs.length W' ∨ ∃ i, i < xs.length ∧ Stop i W') := by
 have cb : W0.cell? ⟨bs, 0, none⟩ = some (.slice ao xs.length cap) := by simp [World.cell?, hbx]
 refine callsIn_of_wp Tryz.func101 rfl trivial ?_ rfl
 simp only [Tryz.ntmps101, List.size_toArray, List.length_cons, List.length_nil, Nat.reduceAdd, Nat.reduceSub, Array.replicate_succ, Array.replicate_zero, List.push_toArray, List.append_toArray, List.nil_append, List.cons_append]
 gi_wp2
 gi_loopg [3] (xs.length + 1) (fun k v wr => ∃ i j : Nat, v = .int .i64 ((j : Int) - 1) ∧ Hid (i + j = xs.length) ∧ J i wr ∧ Below w0.heap.size w0 wr ∧ wr.heap[bs]? = some (.cells #[.slice ao xs.length cap] 44) ∧ Hid (k = j + 1))
 case atStart => exact ⟨0, xs.length, by first | rfl | simp, hide (by omega), h0, hB0, hbx, hide (by omega)⟩
 case round =>
   obtain ⟨i, j, rfl, hij, hJ, hB, hb, HK⟩ := hrel
   cases j with
   | zero =>
     have hil : i = xs.length := by have := hij.out; omega
     have HIL := hide hil
     clear hil hY cb hbx hB0 h0 hx
     gi_wp2
     go_end0
     exact ⟨⟨_, rfl⟩, .inl (by rw [← HIL.out]; exact hJ)⟩
   | succ j =>
     have hj : j < xs.length := by have := hij.out; omega
     have hi' : i < xs.length := by have := hij.out; omega
     have hy0 := hY i hi' wr hJ hB hb
     have hjj : xs.length - 1 - i = j := by have := hij.out; omega
     simp only [hjj] at hy0
     obtain ⟨b, off, rfl, hc⟩ := hx.later hB j hj
     obtain ⟨fn, tmps, assign, body, hy, hR⟩ := hy0
     have cb2 : wr.cell? ⟨bs, 0, none⟩ = some (.slice (some ⟨b, off, none⟩) xs.length cap) := by simp [World.cell?, hb]
     generalize xs[j] = xi at *
     have es := elemSize44
     have ej : (((j + 1 : Nat) : Int) - 1) = (j : Int) := by omega
     rw [ej]
     clear hY cb hbx hB0 h0 hx hjj ej
     gi_wp2
     refine hR.mono ?_
     rintro e W1 (⟨rfl, hB1, hb1, hJ1⟩ | ⟨rfl, hS⟩)
     · clear hy hR
       gi_wp2
       gi_roundg (gk - 1)
       case measure => have := HK.out; omega
       case rel => exact ⟨i + 1, j, by first | rfl | go_num, hide (by have := hij.out; omega), hJ1, hB1, hb1, hide (by have := HK.out; omega)⟩
     · clear hy hR
       gi_wp2
       exact bodyPost_ret (v := .tuple #[]) (by simp [results, Tryz.results101, go_sem]) rfl ⟨⟨_, rfl⟩, .inr ⟨i, hi', hS⟩⟩
end Go.Proofs.YteaaijhppmkfeaaGreatDoor
