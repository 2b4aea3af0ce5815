/- Joined: Ren. -/
import Derived.Test.YtemanednddhfaaaGreatDoorMMtm
import Derived.Test.YtemanednddhfaaaGreatDoorMFwd
import Derived.Test.YtemanednddhfaaaGreatDoorMPlm
import Derived.Test.YtemanednddhfaaaGreatDoorMRh8
namespace Go.Proofs.YtemanednddhfaaaGreatDoor
open Go.RowKit Go.Shelf
open E (T Rx rxOf Vp)
attribute [local go_sem] Oper.semAt_some
theorem Reg.cvU {w : World} {ρ : Operand → Value} {o : Oper} {x : Operand} {i : Nat} (hop : o.op = .convert 3 34 x) (hx : ρ x = .int .i64 (i : Int)) (hi : i ≤ 1000000) : (execOp ρ o).run Tryz.prog w = .ok (.value (.int .u64 (i : Int))) w := by
 obtain ⟨dst, op, type, pos, after, guard⟩ := o
 simp only at hop
 subst hop
 have h := IntWalk.u64_in (i : Int) ⟨by omega, by omega⟩
 simp [execOp, hx, go_sem, h]
theorem Reg.shrU {w : World} {ρ : Operand → Value} {o : Oper} {x y : Operand} {m i : Nat} (hop : o.op = .binOp .shr 33 x y 34) (hx : ρ x = .int .u64 (m : Int)) (hy : ρ y = .int .u64 (i : Int)) (hi : i ≤ 64) : (execOp ρ o).run Tryz.prog w = .ok (.value (.int .u64 ((m / 2 ^ i : Nat) : Int))) w := by
 obtain ⟨dst, op, type, pos, after, guard⟩ := o
 simp only at hop
 subst hop
 have h2 : (i : Int) ≤ 64 := by omega
 simp [execOp, hx, hy, eqGuard, go_sem]
theorem Reg.andO {w : World} {ρ : Operand → Value} {o : Oper} {x y : Operand} {m : Nat} (hop : o.op = .binOp .and 33 x y 33) (hx : ρ x = .int .u64 (m : Int)) (hy : ρ y = .int .u64 1) (hm : m < 2 ^ 64) : (execOp ρ o).run Tryz.prog w = .ok (.value (.int .u64 ((m % 2 : Nat) : Int))) w := by
 obtain ⟨dst, op, type, pos, after, guard⟩ := o
 simp only at hop
 subst hop
 have e := bits_and_u64_nat m 1 hm (by decide)
 rw [Nat.and_one_is_mod] at e
 simp [execOp, hx, hy, eqGuard, go_sem] at e ⊢
 exact e
theorem Reg.eqU {w : World} {ρ : Operand → Value} {o : Oper} {x y : Operand} {m n : Int} {b : Bool} (hop : o.op = .binOp .eql 33 x y 33) (hx : ρ x = .int .u64 m) (hy : ρ y = .int .u64 n) (hb : (m == n) = b) : (execOp ρ o).run Tryz.prog w = .ok (.value (.bool b)) w := by
 obtain ⟨dst, op, type, pos, after, guard⟩ := o
 simp only at hop
 subst hop
 simp [execOp, hx, hy, eqGuard, go_sem, ← hb]
theorem Reg.orU3 {w : World} {ρ : Operand → Value} {o : Oper} {x y : Operand} {m n : Nat} (hop : o.op = .binOp .or 33 x y 33) (hx : ρ x = .int .u64 (m : Int)) (hy : ρ y = .int .u64 (n : Int)) (hm : m < 2 ^ 64) (hn : n < 2 ^ 64) : (execOp ρ o).run Tryz.prog w = .ok (.value (.int .u64 ((m ||| n : Nat) : Int))) w := by
 have e := bits_or_u64_nat m n hm hn
 obtain ⟨dst, op, type, pos, after, guard⟩ := o
 simp only at hop
 subst hop
 simp [execOp, hx, hy, eqGuard, go_sem, e]
theorem Reg.faN2x {w : World} {ρ : Operand → Value} {o : Oper} {x : Operand} {b off : Nat} (hop : o.op = .fieldAddr 26 x 2) (hx : ρ x = .pointer (some ⟨b, off, none⟩)) : (execOp ρ o).run Tryz.prog w = .ok (.value (.pointer (some ⟨b, off + 2, none⟩))) w := by
 obtain ⟨dst, op, type, pos, after, guard⟩ := o
 simp only at hop
 subst hop
 simp [execOp, hx, go_sem]
theorem bdr {n : Nat} {a w : World} (h : Below n a.drew w) : Below n a w := ⟨h.os, h.tape, h.output, h.size, h.block⟩
theorem E.kd_of : ∀ t : T, Vp t → E.Kd (rxOf t)
 | .mk k _ s _ [], h => by unfold Vp at h; unfold rxOf E.Kd; exact h.1
 | .mk k _ _ _ [x], h => by unfold Vp at h; unfold rxOf E.Kd; exact ⟨h.1, E.kd_of x h.2⟩
 | .mk k _ _ _ [x, y], h => by unfold Vp at h; unfold rxOf E.Kd; exact ⟨h.1, E.kd_of x h.2.1, E.kd_of y h.2.2⟩
 | .mk _ _ _ _ (_ :: _ :: _ :: _), h => by unfold Vp at h; exact h.elim
theorem shl_one {k : Nat} (h : k ≤ 61) : IntKind.u64.wrap ((2 : Int) ^ k) = ((2 ^ k : Nat) : Int) ∧ 2 ^ k < 18446744073709551616 := by
 have h1 : (2 : Nat) ^ k < 2 ^ 62 := Nat.pow_lt_pow_right (by decide) (by omega)
 rw [show (2 : Nat) ^ 62 = 4611686018427387904 from rfl] at h1
 rw [show ((2 : Int) ^ k) = ((2 ^ k : Nat) : Int) by simp]
 obtain ⟨p, hp⟩ : ∃ p, (2 : Nat) ^ k = p := ⟨_, rfl⟩
 rw [hp] at h1 ⊢
 exact ⟨IntWalk.u64_in _ ⟨by omega, by omega⟩, by omega⟩
theorem bit_at (m i : Nat) : (((m / 2 ^ i % 2 : Nat) : Int) == 1) = m.testBit i := by
 rw [Nat.testBit_eq_decide_div_mod_eq, Bool.eq_iff_iff, beq_iff_eq, decide_eq_true_eq]
 omega
set_option maxRecDepth 100000 in
set_option maxHeartbeats 4000000 in
theorem ends8_none {w : World} {ao : Option Addr} {n cap : Nat} (a : Int) (nm : ByteArray) (sp kp : Option Addr) (sl sc kl kc : Nat) (m : Nat) :
   Calls Tryz.prog 66 #[.agg #[.int .i64 3, .int .i64 a, .slice sp sl sc, .string nm, .slice kp kl kc], .slice ao n cap, .int .u64 (m : Int)] w fun e W => e = .returned (.int .u64 (m : Int)) ∧ Below w.heap.size w W := by
 have b1 := al1 w (.cells #[.int .i64 3, .int .i64 a, .slice sp sl sc, .string nm, .slice kp kl kc] 26)
 have n1 := heap_alloc_new w (.cells #[.int .i64 3, .int .i64 a, .slice sp sl sc, .string nm, .slice kp kl kc] 26)
 have s1 : (w.alloc (.cells #[.int .i64 3, .int .i64 a, .slice sp sl sc, .string nm, .slice kp kl kc] 26)).heap.size = w.heap.size + 1 := by simp
 obtain ⟨X, hX⟩ : ∃ X, w.alloc (.cells #[.int .i64 3, .int .i64 a, .slice sp sl sc, .string nm, .slice kp kl kc] 26) = X := ⟨_, rfl⟩
 rw [hX] at b1 n1 s1
 obtain ⟨q0, q1, q2, q3, q4⟩ := cells_five n1
 clear n1
 go_enter Tryz.func66, Tryz.ntmps66
 go_wp2
 go_ret
 exact ⟨rfl, b1⟩
set_option maxRecDepth 100000 in
set_option maxHeartbeats 4000000 in
theorem ends8_cat {w : World} {ao : Option Addr} {n cap : Nat} {d0 d1 : ND} {kb koff : Nat} (a : Int) (nm : ByteArray) (sp : Option Addr) (sl sc kl kc : Nat) (hk0 : ∀ W, Below w.heap.size w W → Cells5 W kb koff d0.v) (hk1 : ∀ W, Below w.heap.size w W → Cells5 W kb (koff + 5) d1.v) (hkl : 2 ≤ kl) (m m1 m2 : Nat)
   (hc1 : ∀ W, Below w.heap.size w W → Calls Tryz.prog 66 #[d0.v, .slice ao n cap, .int .u64 (m : Int)] W fun e W' => e = .returned (.int .u64 (m1 : Int)) ∧ Below W.heap.size W W')
   (hc2 : ∀ W, Below w.heap.size w W → Calls Tryz.prog 66 #[d1.v, .slice ao n cap, .int .u64 (m1 : Int)] W fun e W' => e = .returned (.int .u64 (m2 : Int)) ∧ Below W.heap.size W W') :
   Calls Tryz.prog 66 #[.agg #[.int .i64 4, .int .i64 a, .slice sp sl sc, .string nm, .slice (some ⟨kb, koff, none⟩) kl kc], .slice ao n cap, .int .u64 (m : Int)] w fun e W => e = .returned (.int .u64 (m2 : Int)) ∧ Below w.heap.size w W := by
 have b1 := al1 w (.cells #[.int .i64 4, .int .i64 a, .slice sp sl sc, .string nm, .slice (some ⟨kb, koff, none⟩) kl kc] 26)
 have n1 := heap_alloc_new w (.cells #[.int .i64 4, .int .i64 a, .slice sp sl sc, .string nm, .slice (some ⟨kb, koff, none⟩) kl kc] 26)
 have s1 : (w.alloc (.cells #[.int .i64 4, .int .i64 a, .slice sp sl sc, .string nm, .slice (some ⟨kb, koff, none⟩) kl kc] 26)).heap.size = w.heap.size + 1 := by simp
 obtain ⟨X, hX⟩ : ∃ X, w.alloc (.cells #[.int .i64 4, .int .i64 a, .slice sp sl sc, .string nm, .slice (some ⟨kb, koff, none⟩) kl kc] 26) = X := ⟨_, rfl⟩
 rw [hX] at b1 n1 s1
 obtain ⟨q0, q1, q2, q3, q4⟩ := cells_five n1
 have bX : Below w.heap.size w X.drew := ⟨b1.os, b1.tape, b1.output, b1.size, b1.block⟩
 have kx : ∀ w', Below X.heap.size X.drew w' → w'.heap[w.heap.size]? = some (.cells #[.int .i64 4, .int .i64 a, .slice sp sl sc, .string nm, .slice (some ⟨kb, koff, none⟩) kl kc] 26) := fun w' hb => (hb.block w.heap.size (by omega)).trans n1
 replace hk0 : ∀ w', Below X.heap.size X.drew w' → Cells5 w' kb koff d0.v := fun w' hb => hk0 w' (nx bX hb)
 replace hk1 : ∀ w', Below X.heap.size X.drew w' → Cells5 w' kb (koff + 5) d1.v := fun w' hb => hk1 w' (nx bX hb)
 go_enter Tryz.func66, Tryz.ntmps66
 go_wp2
 refine U.Reg.start (B := X.heap.size) (by kernel_rfl) ?_
 refine U.Reg.take (fun _ _ _ _ _ h => h) 0 _ 48 (.pointer (some ⟨w.heap.size, 0 + 4, none⟩)) rfl (by kernel_rfl) (by kernel_rfl) (by kernel_rfl) rfl (by kernel_rfl) (by kernel_rfl) (fun _ _ => Reg.faN4 rfl rfl) ?_
 refine U.Reg.take (fun _ _ _ _ _ h => h) 1 _ 49 (.slice (some ⟨kb, koff, none⟩) kl kc) rfl (by kernel_rfl) (by kernel_rfl) (by kernel_rfl) rfl (by kernel_rfl) (by kernel_rfl) (fun w' hb => U.Reg.ld1 rfl rfl (cells_five (kx w' hb)).2.2.2.2 (Tryz.isAgg24 _)) ?_
 refine U.Reg.take (fun _ _ _ _ _ h => h) 2 _ 50 (.pointer (some ⟨kb, koff + 5, none⟩)) rfl (by kernel_rfl) (by kernel_rfl) (by kernel_rfl) rfl (by kernel_rfl) (by kernel_rfl) (fun _ _ => Reg.ixN (k := 1) rfl rfl rfl (by omega) rfl) ?_
 refine U.Reg.take (fun _ _ _ _ _ h => h) 3 _ 51 (d1.v) rfl (by kernel_rfl) (by kernel_rfl) (by kernel_rfl) rfl (by kernel_rfl) (by kernel_rfl) (fun w' hb => Reg.ldM rfl rfl (hk1 w' hb)) ?_
 refine U.Reg.take (fun _ _ _ _ _ h => h) 4 _ 52 (.slice ao n cap) rfl (by kernel_rfl) (by kernel_rfl) (by kernel_rfl) rfl (by kernel_rfl) (by kernel_rfl) (fun _ _ => Rcl.mv rfl rfl) ?_
 refine U.Reg.take (fun _ _ _ _ _ h => h) 5 _ 53 (.pointer (some ⟨w.heap.size, 0 + 4, none⟩)) rfl (by kernel_rfl) (by kernel_rfl) (by kernel_rfl) rfl (by kernel_rfl) (by kernel_rfl) (fun _ _ => Reg.faN4 rfl rfl) ?_
 refine U.Reg.take (fun _ _ _ _ _ h => h) 6 _ 54 (.slice (some ⟨kb, koff, none⟩) kl kc) rfl (by kernel_rfl) (by kernel_rfl) (by kernel_rfl) rfl (by kernel_rfl) (by kernel_rfl) (fun w' hb => U.Reg.ld1 rfl rfl (cells_five (kx w' hb)).2.2.2.2 (Tryz.isAgg24 _)) ?_
 refine U.Reg.take (fun _ _ _ _ _ h => h) 7 _ 55 (.pointer (some ⟨kb, koff, none⟩)) rfl (by kernel_rfl) (by kernel_rfl) (by kernel_rfl) rfl (by kernel_rfl) (by kernel_rfl) (fun _ _ => Reg.ixN (k := 0) rfl rfl rfl (by omega) rfl) ?_
 refine U.Reg.take (fun _ _ _ _ _ h => h) 8 _ 56 (d0.v) rfl (by kernel_rfl) (by kernel_rfl) (by kernel_rfl) rfl (by kernel_rfl) (by kernel_rfl) (fun w' hb => Reg.ldM rfl rfl (hk0 w' hb)) ?_
 refine U.Reg.take (fun _ _ _ _ _ h => h) 9 _ 57 (.slice ao n cap) rfl (by kernel_rfl) (by kernel_rfl) (by kernel_rfl) rfl (by kernel_rfl) (by kernel_rfl) (fun _ _ => Rcl.mv rfl rfl) ?_
 refine U.Reg.take (fun _ _ _ _ _ h => h) 10 _ 58 (.int .u64 (m : Int)) rfl (by kernel_rfl) (by kernel_rfl) (by kernel_rfl) rfl (by kernel_rfl) (by kernel_rfl) (fun _ _ => Rcl.mv rfl rfl) ?_
 refine U.Reg.call 11 _ 59 66 _ _ #[d0.v, .slice ao n cap, .int .u64 (m : Int)] rfl (by kernel_rfl) rfl (by kernel_rfl) (by kernel_rfl) rfl (by kernel_rfl) (by kernel_rfl) (hc1 X.drew bX) ?_
 rintro e w2 ⟨rfl, hb2⟩
 refine ⟨_, w2.heap.size, rfl, hb2.size, hb2, ?_⟩
 refine U.Reg.call 12 _ 60 66 _ _ #[d1.v, .slice ao n cap, .int .u64 (m1 : Int)] rfl (by kernel_rfl) rfl (by kernel_rfl) (by kernel_rfl) rfl (by kernel_rfl) (by kernel_rfl) (hc2 w2 (nx bX hb2)) ?_
 rintro e w3 ⟨rfl, hb3⟩
 refine ⟨_, w3.heap.size, rfl, hb3.size, hb3, ?_⟩
 refine U.Reg.take (fun _ _ _ _ _ h => h) 13 _ 6 (.int .u64 (m2 : Int)) rfl (by kernel_rfl) (by kernel_rfl) (by kernel_rfl) rfl (by kernel_rfl) (by kernel_rfl) (fun _ _ => by kernel_rfl) ?_
 refine U.Reg.done (by kernel_rfl) ?_
 simp only [U.Reg.ov, Act.put, List.setIfInBounds_toArray, List.set_cons_succ, List.set_cons_zero]
 have hB := nx b1 (bdr (nx hb2 hb3))
 clear hc1 hc2 kx hk0 hk1 hb2 hb3
 go_wp2
 go_ret
 exact ⟨rfl, hB⟩
set_option maxRecDepth 100000 in
set_option maxHeartbeats 4000000 in
theorem ends8_alt {w : World} {ao : Option Addr} {n cap : Nat} {d0 d1 : ND} {kb koff : Nat} (a : Int) (nm : ByteArray) (sp : Option Addr) (sl sc kl kc : Nat) (hk0 : ∀ W, Below w.heap.size w W → Cells5 W kb koff d0.v) (hk1 : ∀ W, Below w.heap.size w W → Cells5 W kb (koff + 5) d1.v) (hkl : 2 ≤ kl) (m m1 m2 : Nat) (h1 : m1 < 2 ^ 64) (h2 : m2 < 2 ^ 64)
   (hc1 : ∀ W, Below w.heap.size w W → Calls Tryz.prog 66 #[d0.v, .slice ao n cap, .int .u64 (m : Int)] W fun e W' => e = .returned (.int .u64 (m1 : Int)) ∧ Below W.heap.size W W')
   (hc2 : ∀ W, Below w.heap.size w W → Calls Tryz.prog 66 #[d1.v, .slice ao n cap, .int .u64 (m : Int)] W fun e W' => e = .returned (.int .u64 (m2 : Int)) ∧ Below W.heap.size W W') :
   Calls Tryz.prog 66 #[.agg #[.int .i64 5, .int .i64 a, .slice sp sl sc, .string nm, .slice (some ⟨kb, koff, none⟩) kl kc], .slice ao n cap, .int .u64 (m : Int)] w fun e W => e = .returned (.int .u64 ((m1 ||| m2 : Nat) : Int)) ∧ Below w.heap.size w W := by
 have b1 := al1 w (.cells #[.int .i64 5, .int .i64 a, .slice sp sl sc, .string nm, .slice (some ⟨kb, koff, none⟩) kl kc] 26)
 have n1 := heap_alloc_new w (.cells #[.int .i64 5, .int .i64 a, .slice sp sl sc, .string nm, .slice (some ⟨kb, koff, none⟩) kl kc] 26)
 have s1 : (w.alloc (.cells #[.int .i64 5, .int .i64 a, .slice sp sl sc, .string nm, .slice (some ⟨kb, koff, none⟩) kl kc] 26)).heap.size = w.heap.size + 1 := by simp
 obtain ⟨X, hX⟩ : ∃ X, w.alloc (.cells #[.int .i64 5, .int .i64 a, .slice sp sl sc, .string nm, .slice (some ⟨kb, koff, none⟩) kl kc] 26) = X := ⟨_, rfl⟩
 rw [hX] at b1 n1 s1
 obtain ⟨q0, q1, q2, q3, q4⟩ := cells_five n1
 have bX : Below w.heap.size w X.drew := ⟨b1.os, b1.tape, b1.output, b1.size, b1.block⟩
 have kx : ∀ w', Below X.heap.size X.drew w' → w'.heap[w.heap.size]? = some (.cells #[.int .i64 5, .int .i64 a, .slice sp sl sc, .string nm, .slice (some ⟨kb, koff, none⟩) kl kc] 26) := fun w' hb => (hb.block w.heap.size (by omega)).trans n1
 replace hk0 : ∀ w', Below X.heap.size X.drew w' → Cells5 w' kb koff d0.v := fun w' hb => hk0 w' (nx bX hb)
 replace hk1 : ∀ w', Below X.heap.size X.drew w' → Cells5 w' kb (koff + 5) d1.v := fun w' hb => hk1 w' (nx bX hb)
 go_enter Tryz.func66, Tryz.ntmps66
 go_wp2
 refine U.Reg.start (B := X.heap.size) (by kernel_rfl) ?_
 refine U.Reg.take (fun _ _ _ _ _ h => h) 0 _ 63 (.pointer (some ⟨w.heap.size, 0 + 4, none⟩)) rfl (by kernel_rfl) (by kernel_rfl) (by kernel_rfl) rfl (by kernel_rfl) (by kernel_rfl) (fun _ _ => Reg.faN4 rfl rfl) ?_
 refine U.Reg.take (fun _ _ _ _ _ h => h) 1 _ 64 (.slice (some ⟨kb, koff, none⟩) kl kc) rfl (by kernel_rfl) (by kernel_rfl) (by kernel_rfl) rfl (by kernel_rfl) (by kernel_rfl) (fun w' hb => U.Reg.ld1 rfl rfl (cells_five (kx w' hb)).2.2.2.2 (Tryz.isAgg24 _)) ?_
 refine U.Reg.take (fun _ _ _ _ _ h => h) 2 _ 65 (.pointer (some ⟨kb, koff, none⟩)) rfl (by kernel_rfl) (by kernel_rfl) (by kernel_rfl) rfl (by kernel_rfl) (by kernel_rfl) (fun _ _ => Reg.ixN (k := 0) rfl rfl rfl (by omega) rfl) ?_
 refine U.Reg.take (fun _ _ _ _ _ h => h) 3 _ 66 (d0.v) rfl (by kernel_rfl) (by kernel_rfl) (by kernel_rfl) rfl (by kernel_rfl) (by kernel_rfl) (fun w' hb => Reg.ldM rfl rfl (hk0 w' hb)) ?_
 refine U.Reg.take (fun _ _ _ _ _ h => h) 4 _ 67 (.slice ao n cap) rfl (by kernel_rfl) (by kernel_rfl) (by kernel_rfl) rfl (by kernel_rfl) (by kernel_rfl) (fun _ _ => Rcl.mv rfl rfl) ?_
 refine U.Reg.take (fun _ _ _ _ _ h => h) 5 _ 68 (.int .u64 (m : Int)) rfl (by kernel_rfl) (by kernel_rfl) (by kernel_rfl) rfl (by kernel_rfl) (by kernel_rfl) (fun _ _ => Rcl.mv rfl rfl) ?_
 refine U.Reg.take (fun _ _ _ _ _ h => h) 7 _ 70 (.pointer (some ⟨w.heap.size, 0 + 4, none⟩)) rfl (by kernel_rfl) (by kernel_rfl) (by kernel_rfl) rfl (by kernel_rfl) (by kernel_rfl) (fun _ _ => Reg.faN4 rfl rfl) ?_
 refine U.Reg.take (fun _ _ _ _ _ h => h) 8 _ 71 (.slice (some ⟨kb, koff, none⟩) kl kc) rfl (by kernel_rfl) (by kernel_rfl) (by kernel_rfl) rfl (by kernel_rfl) (by kernel_rfl) (fun w' hb => U.Reg.ld1 rfl rfl (cells_five (kx w' hb)).2.2.2.2 (Tryz.isAgg24 _)) ?_
 refine U.Reg.take (fun _ _ _ _ _ h => h) 9 _ 72 (.pointer (some ⟨kb, koff + 5, none⟩)) rfl (by kernel_rfl) (by kernel_rfl) (by kernel_rfl) rfl (by kernel_rfl) (by kernel_rfl) (fun _ _ => Reg.ixN (k := 1) rfl rfl rfl (by omega) rfl) ?_
 refine U.Reg.take (fun _ _ _ _ _ h => h) 10 _ 73 (d1.v) rfl (by kernel_rfl) (by kernel_rfl) (by kernel_rfl) rfl (by kernel_rfl) (by kernel_rfl) (fun w' hb => Reg.ldM rfl rfl (hk1 w' hb)) ?_
 refine U.Reg.take (fun _ _ _ _ _ h => h) 11 _ 74 (.slice ao n cap) rfl (by kernel_rfl) (by kernel_rfl) (by kernel_rfl) rfl (by kernel_rfl) (by kernel_rfl) (fun _ _ => Rcl.mv rfl rfl) ?_
 refine U.Reg.take (fun _ _ _ _ _ h => h) 12 _ 75 (.int .u64 (m : Int)) rfl (by kernel_rfl) (by kernel_rfl) (by kernel_rfl) rfl (by kernel_rfl) (by kernel_rfl) (fun _ _ => Rcl.mv rfl rfl) ?_
 refine U.Reg.call 6 _ 69 66 _ _ #[d0.v, .slice ao n cap, .int .u64 (m : Int)] rfl (by kernel_rfl) rfl (by kernel_rfl) (by kernel_rfl) rfl (by kernel_rfl) (by kernel_rfl) (hc1 X.drew bX) ?_
 rintro e w2 ⟨rfl, hb2⟩
 refine ⟨_, w2.heap.size, rfl, hb2.size, hb2, ?_⟩
 refine U.Reg.call 13 _ 76 66 _ _ #[d1.v, .slice ao n cap, .int .u64 (m : Int)] rfl (by kernel_rfl) rfl (by kernel_rfl) (by kernel_rfl) rfl (by kernel_rfl) (by kernel_rfl) (hc2 w2 (nx bX hb2)) ?_
 rintro e w3 ⟨rfl, hb3⟩
 refine ⟨_, w3.heap.size, rfl, hb3.size, hb3, ?_⟩
 refine U.Reg.take (fun _ _ _ _ _ h => h) 14 _ 77 (.int .u64 ((m1 ||| m2 : Nat) : Int)) rfl (by kernel_rfl) (by kernel_rfl) (by kernel_rfl) rfl (by kernel_rfl) (by kernel_rfl) (fun _ _ => Reg.orU3 rfl rfl rfl h1 h2) ?_
 refine U.Reg.take (fun _ _ _ _ _ h => h) 15 _ 6 (.int .u64 ((m1 ||| m2 : Nat) : Int)) rfl (by kernel_rfl) (by kernel_rfl) (by kernel_rfl) rfl (by kernel_rfl) (by kernel_rfl) (fun _ _ => by kernel_rfl) ?_
 refine U.Reg.done (by kernel_rfl) ?_
 simp only [U.Reg.ov, Act.put, List.setIfInBounds_toArray, List.set_cons_succ, List.set_cons_zero]
 have hB := nx b1 (bdr (nx hb2 hb3))
 clear hc1 hc2 kx hk0 hk1 hb2 hb3
 go_wp2
 go_ret
 exact ⟨rfl, hB⟩
set_option maxRecDepth 100000 in
set_option maxHeartbeats 4000000 in
theorem ends8_opt {w : World} {ao : Option Addr} {n cap : Nat} {d0 : ND} {kb koff : Nat} (a : Int) (nm : ByteArray) (sp : Option Addr) (sl sc kl kc : Nat) (hk0 : ∀ W, Below w.heap.size w W → Cells5 W kb koff d0.v) (hkl : 1 ≤ kl) (m m1 : Nat) (h0 : m < 2 ^ 64) (h1 : m1 < 2 ^ 64)
   (hc1 : ∀ W, Below w.heap.size w W → Calls Tryz.prog 66 #[d0.v, .slice ao n cap, .int .u64 (m : Int)] W fun e W' => e = .returned (.int .u64 (m1 : Int)) ∧ Below W.heap.size W W') :
   Calls Tryz.prog 66 #[.agg #[.int .i64 8, .int .i64 a, .slice sp sl sc, .string nm, .slice (some ⟨kb, koff, none⟩) kl kc], .slice ao n cap, .int .u64 (m : Int)] w fun e W => e = .returned (.int .u64 ((m ||| m1 : Nat) : Int)) ∧ Below w.heap.size w W := by
 have b1 := al1 w (.cells #[.int .i64 8, .int .i64 a, .slice sp sl sc, .string nm, .slice (some ⟨kb, koff, none⟩) kl kc] 26)
 have n1 := heap_alloc_new w (.cells #[.int .i64 8, .int .i64 a, .slice sp sl sc, .string nm, .slice (some ⟨kb, koff, none⟩) kl kc] 26)
 have s1 : (w.alloc (.cells #[.int .i64 8, .int .i64 a, .slice sp sl sc, .string nm, .slice (some ⟨kb, koff, none⟩) kl kc] 26)).heap.size = w.heap.size + 1 := by simp
 obtain ⟨X, hX⟩ : ∃ X, w.alloc (.cells #[.int .i64 8, .int .i64 a, .slice sp sl sc, .string nm, .slice (some ⟨kb, koff, none⟩) kl kc] 26) = X := ⟨_, rfl⟩
 rw [hX] at b1 n1 s1
 have es := elemSizeN
 have o1 := bits_or_u64_nat m m1 h0 h1
 have hcall := hc1 X b1
 obtain ⟨q0, q1, q2, q3, q4⟩ := cells_five n1
 obtain ⟨c0, c1, c2, c3, c4, ev, g0, g1, g2, g3, g4⟩ := hk0 X b1
 rw [ev] at hcall
 clear ev hc1 hk0
 go_enter Tryz.func66, Tryz.ntmps66
 go_wp2_with fail
 refine hcall.mono ?_
 rintro e W1 ⟨rfl, hb1⟩
 have B1 := nx b1 hb1
 clear hcall q0 q1 q2 q3 q4 g0 g1 g2 g3 g4 hb1 n1 b1 s1
 go_wp2
 go_ret
 exact ⟨rfl, B1⟩
set_option maxRecDepth 100000 in
set_option maxHeartbeats 4000000 in
theorem ends8_star {w : World} {ao : Option Addr} {n cap B : Nat} {d0 : ND} {kb koff : Nat} (a : Int) (nm : ByteArray) (sp : Option Addr) (sl sc kl kc : Nat) (hk0 : ∀ W, Below w.heap.size w W → Cells5 W kb koff d0.v) (hkl : 1 ≤ kl) (hn : n ≤ 1000) (f : Nat → Nat) (hB : B ≤ 64) (hf : ∀ m, m < 2 ^ B → f m < 2 ^ B) (m : Nat) (hm : m < 2 ^ B)
   (hc1 : ∀ m : Nat, m < 2 ^ B → ∀ W, Below w.heap.size w W → Calls Tryz.prog 66 #[d0.v, .slice ao n cap, .int .u64 (m : Int)] W fun e W' => e = .returned (.int .u64 (f m : Int)) ∧ Below W.heap.size W W') :
   Calls Tryz.prog 66 #[.agg #[.int .i64 6, .int .i64 a, .slice sp sl sc, .string nm, .slice (some ⟨kb, koff, none⟩) kl kc], .slice ao n cap, .int .u64 (m : Int)] w fun e W => e = .returned (.int .u64 ((E.iter f (n + 1) (f m ||| m) : Nat) : Int)) ∧ Below w.heap.size w W := by
 have b1 := al1 w (.cells #[.int .i64 6, .int .i64 a, .slice sp sl sc, .string nm, .slice (some ⟨kb, koff, none⟩) kl kc] 26)
 have n1 := heap_alloc_new w (.cells #[.int .i64 6, .int .i64 a, .slice sp sl sc, .string nm, .slice (some ⟨kb, koff, none⟩) kl kc] 26)
 have s1 : (w.alloc (.cells #[.int .i64 6, .int .i64 a, .slice sp sl sc, .string nm, .slice (some ⟨kb, koff, none⟩) kl kc] 26)).heap.size = w.heap.size + 1 := by simp
 obtain ⟨X, hX⟩ : ∃ X, w.alloc (.cells #[.int .i64 6, .int .i64 a, .slice sp sl sc, .string nm, .slice (some ⟨kb, koff, none⟩) kl kc] 26) = X := ⟨_, rfl⟩
 rw [hX] at b1 n1 s1
 have es := elemSizeN
 have hcall := hc1 m hm X b1
 have h64 : ∀ q : Nat, q < 2 ^ B → q < 18446744073709551616 := fun q hq => Nat.lt_of_lt_of_le hq (Nat.pow_le_pow_right (by decide) hB)
 have hfm := hf m hm
 obtain ⟨m1, hm1⟩ : ∃ m1, f m = m1 := ⟨_, rfl⟩
 rw [hm1] at hcall hfm
 have HM1 := hide hm1
 have o1 := bits_or_u64_nat m1 m (h64 _ hfm) (h64 _ hm)
 obtain ⟨q0, q1, q2, q3, q4⟩ := cells_five n1
 obtain ⟨c0, c1, c2, c3, c4, ev, g0, g1, g2, g3, g4⟩ := hk0 X b1
 have HEV := hide ev
 rw [ev] at hcall
 clear hm1 ev
 go_enter Tryz.func66, Tryz.ntmps66
 go_wp2_with fail
 refine hcall.mono ?_
 rintro e W1 ⟨rfl, hb1⟩
 have B1 := nx b1 hb1
 have n2 := (hb1.block w.heap.size (by omega)).trans n1
 have z1 : w.heap.size + 1 ≤ W1.heap.size := by have := hb1.size; omega
 clear hcall q0 q1 q2 q3 q4 g0 g1 g2 g3 g4 hb1 n1 b1 s1
 obtain ⟨q0, q1, q2, q3, q4⟩ := cells_five n2
 have hst : E.iter f 0 (m1 ||| m) < 2 ^ B := Nat.or_lt_two_pow hfm hm
 have HIT := hide (fun j => E.iter_lt (b := B) hf j _ hst)
 go_wp2
 clear o1
 go_loopw [9, 10] (fun p u wr => ∃ i : Nat, p = .int .u64 ((E.iter f i (m1 ||| m) : Nat) : Int) ∧ u = .int .i64 (i : Int) ∧ i ≤ n + 1 ∧ Below W1.heap.size W1 wr) (fun _ u _ => n + 1 - (intOf u).toNat)
 case atStart => exact ⟨0, rfl, rfl, Nat.zero_le _, Below.refl _ _⟩
 case round =>
   obtain ⟨i, rfl, rfl, hi, hB1⟩ := hrel
   by_cases hlt : i ≤ n
   · obtain ⟨x, hx⟩ : ∃ x, E.iter f i (m1 ||| m) = x := ⟨_, rfl⟩
     have hxl := HIT.out i
     have HX : Hid (E.iter f (i + 1) (m1 ||| m) = x ||| f x) := hide (by rw [E.iter, hx])
     have hx' : E.iter f i (m1 ||| m) < 2 ^ B := hxl
     rw [hx] at hx' ⊢
     have hcall := hc1 x hx' wr (nx B1 hB1)
     have hfx := hf x hx'
     obtain ⟨y, hy⟩ : ∃ y, f x = y := ⟨_, rfl⟩
     rw [hy] at hcall hfx
     have HY := hide hy
     have o2 := bits_or_u64_nat x y (h64 _ hx') (h64 _ hfx)
     have n3 := (hB1.block w.heap.size (by omega)).trans n2
     obtain ⟨p0, p1, p2, p3, p4⟩ := cells_five n3
     obtain ⟨e0, e1, e2, e3, e4, ev, g0, g1, g2, g3, g4⟩ := hk0 wr (nx B1 hB1)
     rw [ev] at hcall
     clear hx hxl hy ev
     go_wp2_with fail
     refine hcall.mono ?_
     rintro e W2 ⟨rfl, hb2⟩
     have B2 := nx hB1 hb2
     clear hcall hb2 p0 p1 p2 p3 p4 g0 g1 g2 g3 g4
     go_wp2
     go_roundw
     case rel => exact ⟨i + 1, by rw [HX.out, HY.out], by go_num, by omega, B2⟩
     case measure => simp [intOf] <;> omega
   · obtain rfl : i = n + 1 := by omega
     go_wp2
     go_ret
     exact ⟨by rw [HM1.out]; rfl, nx B1 hB1⟩
set_option maxRecDepth 100000 in
set_option maxHeartbeats 4000000 in
theorem ends8_plus {w : World} {ao : Option Addr} {n cap B : Nat} {d0 : ND} {kb koff : Nat} (a : Int) (nm : ByteArray) (sp : Option Addr) (sl sc kl kc : Nat) (hk0 : ∀ W, Below w.heap.size w W → Cells5 W kb koff d0.v) (hkl : 1 ≤ kl) (hn : n ≤ 1000) (f : Nat → Nat) (hB : B ≤ 64) (hf : ∀ m, m < 2 ^ B → f m < 2 ^ B) (m : Nat) (hm : m < 2 ^ B)
   (hc1 : ∀ m : Nat, m < 2 ^ B → ∀ W, Below w.heap.size w W → Calls Tryz.prog 66 #[d0.v, .slice ao n cap, .int .u64 (m : Int)] W fun e W' => e = .returned (.int .u64 (f m : Int)) ∧ Below W.heap.size W W') :
   Calls Tryz.prog 66 #[.agg #[.int .i64 7, .int .i64 a, .slice sp sl sc, .string nm, .slice (some ⟨kb, koff, none⟩) kl kc], .slice ao n cap, .int .u64 (m : Int)] w fun e W => e = .returned (.int .u64 ((E.iter f (n + 1) (f m) : Nat) : Int)) ∧ Below w.heap.size w W := by
 have b1 := al1 w (.cells #[.int .i64 7, .int .i64 a, .slice sp sl sc, .string nm, .slice (some ⟨kb, koff, none⟩) kl kc] 26)
 have n1 := heap_alloc_new w (.cells #[.int .i64 7, .int .i64 a, .slice sp sl sc, .string nm, .slice (some ⟨kb, koff, none⟩) kl kc] 26)
 have s1 : (w.alloc (.cells #[.int .i64 7, .int .i64 a, .slice sp sl sc, .string nm, .slice (some ⟨kb, koff, none⟩) kl kc] 26)).heap.size = w.heap.size + 1 := by simp
 obtain ⟨X, hX⟩ : ∃ X, w.alloc (.cells #[.int .i64 7, .int .i64 a, .slice sp sl sc, .string nm, .slice (some ⟨kb, koff, none⟩) kl kc] 26) = X := ⟨_, rfl⟩
 rw [hX] at b1 n1 s1
 have es := elemSizeN
 have hcall := hc1 m hm X b1
 have h64 : ∀ q : Nat, q < 2 ^ B → q < 18446744073709551616 := fun q hq => Nat.lt_of_lt_of_le hq (Nat.pow_le_pow_right (by decide) hB)
 have hfm := hf m hm
 obtain ⟨m1, hm1⟩ : ∃ m1, f m = m1 := ⟨_, rfl⟩
 rw [hm1] at hcall hfm
 have HM1 := hide hm1
 have o1 := bits_or_u64_nat m1 m (h64 _ hfm) (h64 _ hm)
 obtain ⟨q0, q1, q2, q3, q4⟩ := cells_five n1
 obtain ⟨c0, c1, c2, c3, c4, ev, g0, g1, g2, g3, g4⟩ := hk0 X b1
 have HEV := hide ev
 rw [ev] at hcall
 clear hm1 ev
 go_enter Tryz.func66, Tryz.ntmps66
 go_wp2_with fail
 refine hcall.mono ?_
 rintro e W1 ⟨rfl, hb1⟩
 have B1 := nx b1 hb1
 have n2 := (hb1.block w.heap.size (by omega)).trans n1
 have z1 : w.heap.size + 1 ≤ W1.heap.size := by have := hb1.size; omega
 clear hcall q0 q1 q2 q3 q4 g0 g1 g2 g3 g4 hb1 n1 b1 s1
 obtain ⟨q0, q1, q2, q3, q4⟩ := cells_five n2
 have hst : E.iter f 0 (m1) < 2 ^ B := hfm
 have HIT := hide (fun j => E.iter_lt (b := B) hf j _ hst)
 go_wp2
 clear o1
 go_loopw [9, 10] (fun p u wr => ∃ i : Nat, p = .int .u64 ((E.iter f i (m1) : Nat) : Int) ∧ u = .int .i64 (i : Int) ∧ i ≤ n + 1 ∧ Below W1.heap.size W1 wr) (fun _ u _ => n + 1 - (intOf u).toNat)
 case atStart => exact ⟨0, rfl, rfl, Nat.zero_le _, Below.refl _ _⟩
 case round =>
   obtain ⟨i, rfl, rfl, hi, hB1⟩ := hrel
   by_cases hlt : i ≤ n
   · obtain ⟨x, hx⟩ : ∃ x, E.iter f i (m1) = x := ⟨_, rfl⟩
     have hxl := HIT.out i
     have HX : Hid (E.iter f (i + 1) (m1) = x ||| f x) := hide (by rw [E.iter, hx])
     have hx' : E.iter f i (m1) < 2 ^ B := hxl
     rw [hx] at hx' ⊢
     have hcall := hc1 x hx' wr (nx B1 hB1)
     have hfx := hf x hx'
     obtain ⟨y, hy⟩ : ∃ y, f x = y := ⟨_, rfl⟩
     rw [hy] at hcall hfx
     have HY := hide hy
     have o2 := bits_or_u64_nat x y (h64 _ hx') (h64 _ hfx)
     have n3 := (hB1.block w.heap.size (by omega)).trans n2
     obtain ⟨p0, p1, p2, p3, p4⟩ := cells_five n3
     obtain ⟨e0, e1, e2, e3, e4, ev, g0, g1, g2, g3, g4⟩ := hk0 wr (nx B1 hB1)
     rw [ev] at hcall
     clear hx hxl hy ev
     go_wp2_with fail
     refine hcall.mono ?_
     rintro e W2 ⟨rfl, hb2⟩
     have B2 := nx hB1 hb2
     clear hcall hb2 p0 p1 p2 p3 p4 g0 g1 g2 g3 g4
     go_wp2
     go_roundw
     case rel => exact ⟨i + 1, by rw [HX.out, HY.out], by go_num, by omega, B2⟩
     case measure => simp [intOf] <;> omega
   · obtain rfl : i = n + 1 := by omega
     go_wp2
     go_ret
     exact ⟨by rw [HM1.out]; rfl, nx B1 hB1⟩
set_option maxRecDepth 100000 in
set_option maxHeartbeats 4000000 in
theorem ends8_set {w : World} {ao : Option Addr} {cap : Nat} {xs : List Int} (a : Int) (nm : ByteArray) (s : List U.S.R) (sp kp : Option Addr) (sc kl kc : Nat) (hsl : s.length ≤ 1000000) (hn : xs.length ≤ 60) (m : Nat) (hm : m < 2 ^ 64) (hx : RdC32 w ao xs) (hr : U.RdR w sp s) :
   Calls Tryz.prog 66 #[.agg #[.int .i64 1, .int .i64 a, .slice sp s.length sc, .string nm, .slice kp kl kc], .slice ao xs.length cap, .int .u64 (m : Int)] w fun e W => e = .returned (.int .u64 ((E.setM s xs m xs.length : Nat) : Int)) ∧ Below w.heap.size w W := by
 have b1 := al1 w (.cells #[.int .i64 1, .int .i64 a, .slice sp s.length sc, .string nm, .slice kp kl kc] 26)
 have n1 := heap_alloc_new w (.cells #[.int .i64 1, .int .i64 a, .slice sp s.length sc, .string nm, .slice kp kl kc] 26)
 have s1 : (w.alloc (.cells #[.int .i64 1, .int .i64 a, .slice sp s.length sc, .string nm, .slice kp kl kc] 26)).heap.size = w.heap.size + 1 := by simp
 obtain ⟨X, hX⟩ : ∃ X, w.alloc (.cells #[.int .i64 1, .int .i64 a, .slice sp s.length sc, .string nm, .slice kp kl kc] 26) = X := ⟨_, rfl⟩
 rw [hX] at b1 n1 s1
 obtain ⟨q0, q1, q2, q3, q4⟩ := cells_five n1
 have HX0 := hide (fun W (hb : Below w.heap.size w W) => (⟨hx.later hb, hr.later hb⟩ : RdC32 W ao xs ∧ U.RdR W sp s))
 have hlt : ∀ k, k ≤ xs.length → E.setM s xs m k < 2 ^ 64 := fun k hk => by
   refine Nat.lt_pow_two_of_testBit _ fun j hj => ?_
   cases hc : (E.setM s xs m k).testBit j with
   | false => rfl
   | true =>
     obtain ⟨i, h, _, _, _, e⟩ := (E.setM_bit s xs m j k hk).1 hc
     omega
 clear hx hr
 go_enter Tryz.func66, Tryz.ntmps66
 go_wp2
 clear q0 q1 q2 q3 q4
 go_loopw [7, 8] (fun p u wr => ∃ i : Nat, p = .int .u64 ((E.setM s xs m i : Nat) : Int) ∧ u = .int .i64 (i : Int) ∧ i ≤ xs.length ∧ Below X.heap.size X wr) (fun _ u _ => xs.length - (intOf u).toNat)
 case atStart => exact ⟨0, rfl, rfl, Nat.zero_le _, Below.refl _ _⟩
 case round =>
   obtain ⟨i, rfl, rfl, hi, hB⟩ := hrel
   have hBw := nx b1 hB
   have HST := hide (show E.setM s xs m (i + 1) = E.setM s xs m i ||| (if m.testBit i && (xs[i]?.map (E.inS s)).getD false then 2 ^ (i + 1) else 0) from rfl)
   have hlo := hlt i hi
   by_cases hlti : i < xs.length
   · obtain ⟨b, off, rfl, hc⟩ := (HX0.out wr hBw).1 i hlti
     have hbx : Below w.heap.size w wr.drew := ⟨hBw.os, hBw.tape, hBw.output, hBw.size, hBw.block⟩
     have kq : ∀ w', Below wr.heap.size wr.drew w' → w'.cell? ⟨b, off + i, none⟩ = some (.int .i32 xs[i]) := fun w' hb => cell_later (w := wr.drew) hb hc
     have kx : ∀ w', Below wr.heap.size wr.drew w' → w'.heap[w.heap.size]? = some (.cells #[.int .i64 1, .int .i64 a, .slice sp s.length sc, .string nm, .slice kp kl kc] 26) := fun w' hb => (hb.block w.heap.size (by have := hB.size; show _ < wr.heap.size; omega)).trans ((hB.block w.heap.size (by omega)).trans n1)
     have hhas := U.refHas8 sp sc s xs[i] hsl wr.drew (HX0.out _ hbx).2
     have hq : m / 2 ^ i < 2 ^ 64 := Nat.lt_of_le_of_lt (Nat.div_le_self _ _) hm
     have hbt := bit_at m i
     have HG : Hid ((xs[i]?.map (E.inS s)).getD false = U.S.hB s xs[i]) := hide (by rw [List.getElem?_eq_getElem hlti]; rfl)
     obtain ⟨z, hz⟩ : ∃ z, U.S.hB s xs[i] = z := ⟨_, rfl⟩
     rw [hz] at hhas
     have hG : (xs[i]?.map (E.inS s)).getD false = z := HG.out.trans hz
     rw [hG] at HST
     obtain ⟨x, hx⟩ : ∃ x, E.setM s xs m i = x := ⟨_, rfl⟩
     rw [hx] at hlo HST ⊢
     generalize xs[i] = r at *
     obtain ⟨q, hq0⟩ : ∃ q, m.testBit i = q := ⟨_, rfl⟩
     rw [hq0] at hbt HST
     have hsh := (shl_one (k := i + 1) (by omega)).1
     have ho := bits_or_u64_nat x (2 ^ (i + 1)) hlo (shl_one (k := i + 1) (by omega)).2
     obtain ⟨p, hp⟩ : ∃ p, 2 ^ (i + 1) = p := ⟨_, rfl⟩
     rw [hp] at hsh ho HST
     clear hx hG hz hq0 hc hlt hp
     cases q
     · go_wp2
       refine U.Reg.start (B := wr.heap.size) (by kernel_rfl) ?_
       refine U.Reg.take (fun _ _ _ _ _ h => h) 0 _ 21 (.int .u64 (m : Int)) rfl (by kernel_rfl) (by kernel_rfl) (by kernel_rfl) rfl (by kernel_rfl) (by kernel_rfl) (fun _ _ => Rcl.mv rfl rfl) ?_
       refine U.Reg.take (fun _ _ _ _ _ h => h) 1 _ 22 (.int .i64 (i : Int)) rfl (by kernel_rfl) (by kernel_rfl) (by kernel_rfl) rfl (by kernel_rfl) (by kernel_rfl) (fun _ _ => Rcl.mv rfl rfl) ?_
       refine U.Reg.take (fun _ _ _ _ _ h => h) 2 _ 23 (.int .u64 (i : Int)) rfl (by kernel_rfl) (by kernel_rfl) (by kernel_rfl) rfl (by kernel_rfl) (by kernel_rfl) (fun _ _ => Reg.cvU rfl rfl (by omega)) ?_
       refine U.Reg.take (fun _ _ _ _ _ h => h) 3 _ 24 (.int .u64 ((m / 2 ^ i : Nat) : Int)) rfl (by kernel_rfl) (by kernel_rfl) (by kernel_rfl) rfl (by kernel_rfl) (by kernel_rfl) (fun _ _ => Reg.shrU rfl rfl rfl (by omega)) ?_
       refine U.Reg.take (fun _ _ _ _ _ h => h) 4 _ 25 (.int .u64 ((m / 2 ^ i % 2 : Nat) : Int)) rfl (by kernel_rfl) (by kernel_rfl) (by kernel_rfl) rfl (by kernel_rfl) (by kernel_rfl) (fun _ _ => Reg.andO rfl rfl rfl hq) ?_
       refine U.Reg.take (fun _ _ _ _ _ h => h) 5 _ 26 (.bool false) rfl (by kernel_rfl) (by kernel_rfl) (by kernel_rfl) rfl (by kernel_rfl) (by kernel_rfl) (fun _ _ => Reg.eqU rfl rfl rfl hbt) ?_
       refine U.Reg.take (fun _ _ _ _ _ h => h) 6 _ 27 (.bool false) rfl (by kernel_rfl) (by kernel_rfl) (by kernel_rfl) rfl (by kernel_rfl) (by kernel_rfl) (fun _ _ => Rcl.mv rfl rfl) ?_
       refine U.Reg.skip (fun _ _ _ _ _ h => h) 7 _ 28 rfl (by kernel_rfl) (by kernel_rfl) (by kernel_rfl) rfl (by kernel_rfl) (by kernel_rfl) ?_
       refine U.Reg.skip (fun _ _ _ _ _ h => h) 8 _ 29 rfl (by kernel_rfl) (by kernel_rfl) (by kernel_rfl) rfl (by kernel_rfl) (by kernel_rfl) ?_
       refine U.Reg.skip (fun _ _ _ _ _ h => h) 9 _ 30 rfl (by kernel_rfl) (by kernel_rfl) (by kernel_rfl) rfl (by kernel_rfl) (by kernel_rfl) ?_
       refine U.Reg.skip (fun _ _ _ _ _ h => h) 10 _ 31 rfl (by kernel_rfl) (by kernel_rfl) (by kernel_rfl) rfl (by kernel_rfl) (by kernel_rfl) ?_
       refine U.Reg.skip (fun _ _ _ _ _ h => h) 11 _ 32 rfl (by kernel_rfl) (by kernel_rfl) (by kernel_rfl) rfl (by kernel_rfl) (by kernel_rfl) ?_
       refine U.Reg.skip (fun _ _ _ _ _ h => h) 12 _ 33 rfl (by kernel_rfl) (by kernel_rfl) (by kernel_rfl) rfl (by kernel_rfl) (by kernel_rfl) ?_
       refine U.Reg.skip (fun _ _ _ _ _ h => h) 13 _ 34 rfl (by kernel_rfl) (by kernel_rfl) (by kernel_rfl) rfl (by kernel_rfl) (by kernel_rfl) ?_
       refine U.Reg.take (fun _ _ _ _ _ h => h) 14 _ 35 (.bool false) rfl (by kernel_rfl) (by kernel_rfl) (by kernel_rfl) rfl (by kernel_rfl) (by kernel_rfl) (fun _ _ => by kernel_rfl) ?_
       refine U.Reg.done (by kernel_rfl) ?_
       simp only [U.Reg.ov, Act.put, List.setIfInBounds_toArray, List.set_cons_succ, List.set_cons_zero]
       have hBn : Below X.heap.size X wr.drew := ⟨hB.os, hB.tape, hB.output, hB.size, hB.block⟩
       clear hhas kq kx
       go_wp2
       go_roundw
       case rel => exact ⟨i + 1, by rw [HST.out]; simp, by go_num, by omega, hBn⟩
       case measure => simp [intOf] <;> omega
     · go_wp2
       refine U.Reg.start (B := wr.heap.size) (by kernel_rfl) ?_
       refine U.Reg.take (fun _ _ _ _ _ h => h) 0 _ 21 (.int .u64 (m : Int)) rfl (by kernel_rfl) (by kernel_rfl) (by kernel_rfl) rfl (by kernel_rfl) (by kernel_rfl) (fun _ _ => Rcl.mv rfl rfl) ?_
       refine U.Reg.take (fun _ _ _ _ _ h => h) 1 _ 22 (.int .i64 (i : Int)) rfl (by kernel_rfl) (by kernel_rfl) (by kernel_rfl) rfl (by kernel_rfl) (by kernel_rfl) (fun _ _ => Rcl.mv rfl rfl) ?_
       refine U.Reg.take (fun _ _ _ _ _ h => h) 2 _ 23 (.int .u64 (i : Int)) rfl (by kernel_rfl) (by kernel_rfl) (by kernel_rfl) rfl (by kernel_rfl) (by kernel_rfl) (fun _ _ => Reg.cvU rfl rfl (by omega)) ?_
       refine U.Reg.take (fun _ _ _ _ _ h => h) 3 _ 24 (.int .u64 ((m / 2 ^ i : Nat) : Int)) rfl (by kernel_rfl) (by kernel_rfl) (by kernel_rfl) rfl (by kernel_rfl) (by kernel_rfl) (fun _ _ => Reg.shrU rfl rfl rfl (by omega)) ?_
       refine U.Reg.take (fun _ _ _ _ _ h => h) 4 _ 25 (.int .u64 ((m / 2 ^ i % 2 : Nat) : Int)) rfl (by kernel_rfl) (by kernel_rfl) (by kernel_rfl) rfl (by kernel_rfl) (by kernel_rfl) (fun _ _ => Reg.andO rfl rfl rfl hq) ?_
       refine U.Reg.take (fun _ _ _ _ _ h => h) 5 _ 26 (.bool true) rfl (by kernel_rfl) (by kernel_rfl) (by kernel_rfl) rfl (by kernel_rfl) (by kernel_rfl) (fun _ _ => Reg.eqU rfl rfl rfl hbt) ?_
       refine U.Reg.take (fun _ _ _ _ _ h => h) 6 _ 27 (.bool true) rfl (by kernel_rfl) (by kernel_rfl) (by kernel_rfl) rfl (by kernel_rfl) (by kernel_rfl) (fun _ _ => Rcl.mv rfl rfl) ?_
       refine U.Reg.take (fun _ _ _ _ _ h => h) 7 _ 28 (.pointer (some ⟨w.heap.size, 0 + 2, none⟩)) rfl (by kernel_rfl) (by kernel_rfl) (by kernel_rfl) rfl (by kernel_rfl) (by kernel_rfl) (fun _ _ => Reg.faN2x rfl rfl) ?_
       refine U.Reg.take (fun _ _ _ _ _ h => h) 8 _ 29 (.slice sp s.length sc) rfl (by kernel_rfl) (by kernel_rfl) (by kernel_rfl) rfl (by kernel_rfl) (by kernel_rfl) (fun w' hb => U.Reg.ld1 rfl rfl (cells_five (kx w' hb)).2.2.1 (Tryz.isAgg23 _)) ?_
       refine U.Reg.take (fun _ _ _ _ _ h => h) 9 _ 30 (.slice (some ⟨b, off, none⟩) xs.length cap) rfl (by kernel_rfl) (by kernel_rfl) (by kernel_rfl) rfl (by kernel_rfl) (by kernel_rfl) (fun _ _ => Rcl.mv rfl rfl) ?_
       refine U.Reg.take (fun _ _ _ _ _ h => h) 10 _ 31 (.int .i64 (i : Int)) rfl (by kernel_rfl) (by kernel_rfl) (by kernel_rfl) rfl (by kernel_rfl) (by kernel_rfl) (fun _ _ => Rcl.mv rfl rfl) ?_
       refine U.Reg.take (fun _ _ _ _ _ h => h) 11 _ 32 (.pointer (some ⟨b, off + i * 1, none⟩)) rfl (by kernel_rfl) (by kernel_rfl) (by kernel_rfl) rfl (by kernel_rfl) (by kernel_rfl) (fun _ _ => U.Reg.ix rfl rfl rfl hlti Tryz.underlying53 (elemSize53 _)) ?_
       refine U.Reg.take (fun _ _ _ _ _ h => h) 12 _ 33 (.int .i32 r) rfl (by kernel_rfl) (by kernel_rfl) (by kernel_rfl) rfl (by kernel_rfl) (by kernel_rfl) (fun w' hb => U.Reg.ld1 rfl rfl (by rw [Nat.mul_one]; exact kq w' hb) (Tryz.isAgg21 _)) ?_
       refine U.Reg.call 13 _ 34 58 _ _ #[.slice sp s.length sc, .int .i32 r] rfl (by kernel_rfl) rfl (by kernel_rfl) (by kernel_rfl) rfl (by kernel_rfl) (by kernel_rfl) (hhas) ?_
       rintro e w2 ⟨rfl, hb2⟩
       refine ⟨_, w2.heap.size, rfl, hb2.size, hb2, ?_⟩
       refine U.Reg.take (fun _ _ _ _ _ h => h) 14 _ 35 (.bool z) rfl (by kernel_rfl) (by kernel_rfl) (by kernel_rfl) rfl (by kernel_rfl) (by kernel_rfl) (fun _ _ => by kernel_rfl) ?_
       refine U.Reg.done (by kernel_rfl) ?_
       simp only [U.Reg.ov, Act.put, List.setIfInBounds_toArray, List.set_cons_succ, List.set_cons_zero]
       have hBn : Below X.heap.size X w2 := nx hB (bdr hb2)
       clear hhas kq kx hb2
       cases z
       · go_wp2
         go_roundw
         case rel => exact ⟨i + 1, by rw [HST.out]; simp, by go_num, by omega, hBn⟩
         case measure => simp [intOf] <;> omega
       · go_wp2
         go_roundw
         case rel => exact ⟨i + 1, by rw [HST.out]; simp, by go_num, by omega, hBn⟩
         case measure => simp [intOf] <;> omega
   · obtain rfl : i = xs.length := by omega
     go_wp2
     go_ret
     exact ⟨rfl, hBw⟩
theorem ends66 {ao : Option Addr} {cap : Nat} {xs : List Int} (hn : xs.length ≤ 60) : ∀ (t : T), Vp t → ∀ (m : Nat), m < 2 ^ (xs.length + 1) → ∀ (d : ND) (w : World), RdC32 w ao xs → TR w (fun _ => True) t d.v →
   Calls Tryz.prog 66 #[d.v, .slice ao xs.length cap, .int .u64 (m : Int)] w fun e W => e = .returned (.int .u64 ((E.eM xs (rxOf t) m : Nat) : Int)) ∧ Below w.heap.size w W
 | .mk k a s nm [], hV, m, hm, d, w, hx, hT => by
   unfold Vp at hV
   obtain ⟨rfl, e2, h1, e3, _⟩ := hT.parts8
   have hm64 : m < 2 ^ 64 := Nat.lt_of_lt_of_le hm (Nat.pow_le_pow_right (by decide) (by omega))
   obtain ⟨dk, da, dsp, dsl, dsc, dn, dkp, dkl, dkc⟩ := d
   dsimp only at *
   subst e2
   unfold rxOf E.eM
   rcases hV.1 with rfl | rfl
   · rw [if_pos rfl]
     exact ends8_set da dn s dsp dkp dsc dkl dkc hV.2 hn m hm64 hx h1
   · rw [if_neg (by decide)]
     exact ends8_none da dn dsp dkp s.length dsc dkl dkc m
 | .mk k a s nm [x], hV, m, hm, d, w, hx, hT => by
   unfold Vp at hV
   obtain ⟨rfl, _, _, e3, hK⟩ := hT.parts8
   have h64 : ∀ q : Nat, q < 2 ^ (xs.length + 1) → q < 2 ^ 64 := fun q hq => Nat.lt_of_lt_of_le hq (Nat.pow_le_pow_right (by decide) (by omega))
   have hok := E.eM_ok xs (rxOf x) (E.kd_of x hV.2)
   rw [KR] at hK
   obtain ⟨⟨kb, koff, v, e, _, hx0, hc0⟩, _⟩ := hK
   obtain ⟨d0, rfl, _⟩ := hx0.nd
   obtain ⟨dk, da, dsp, dsl, dsc, dn, dkp, dkl, dkc⟩ := d
   dsimp only at *
   subst e e3
   rw [show koff + 0 * 5 = koff by omega] at hc0
   have hk0 := fun W (hb : Below w.heap.size w W) => cells5_same hc0 (hb.block kb (cells5_lt hc0))
   have hc := fun (q : Nat) (hq : q < 2 ^ (xs.length + 1)) W (hb : Below w.heap.size w W) => ends66 (ao := ao) (cap := cap) hn x hV.2 q hq d0 W (hx.later hb) (TR.later (fun k hk => hb.block k hk) _ hx0)
   unfold rxOf E.eM
   rcases hV.1 with rfl | rfl | rfl
   · rw [if_neg (by decide), if_pos rfl]
     exact ends8_star da dn dsp dsl dsc 1 dkc hk0 (Nat.le_refl _) (by omega) _ (by omega) (fun q hq => (hok q hq).1) m hm hc
   · rw [if_neg (by decide), if_neg (by decide)]
     exact ends8_plus da dn dsp dsl dsc 1 dkc hk0 (Nat.le_refl _) (by omega) _ (by omega) (fun q hq => (hok q hq).1) m hm hc
   · rw [if_pos rfl]
     exact ends8_opt da dn dsp dsl dsc 1 dkc hk0 (Nat.le_refl _) m _ (h64 m hm) (h64 _ (hok m hm).1) (hc m hm)
 | .mk k a s nm [x, y], hV, m, hm, d, w, hx, hT => by
   unfold Vp at hV
   obtain ⟨rfl, _, _, e3, hK⟩ := hT.parts8
   have h64 : ∀ q : Nat, q < 2 ^ (xs.length + 1) → q < 2 ^ 64 := fun q hq => Nat.lt_of_lt_of_le hq (Nat.pow_le_pow_right (by decide) (by omega))
   have hok := E.eM_ok xs (rxOf x) (E.kd_of x hV.2.1)
   have hok2 := E.eM_ok xs (rxOf y) (E.kd_of y hV.2.2)
   rw [KR, KR] at hK
   obtain ⟨⟨kb, koff, v, e, _, hx0, hc0⟩, ⟨kb', koff', v', e', _, hy0, hc1⟩, _⟩ := hK
   obtain ⟨d0, rfl, _⟩ := hx0.nd
   obtain ⟨d1, rfl, _⟩ := hy0.nd
   obtain ⟨dk, da, dsp, dsl, dsc, dn, dkp, dkl, dkc⟩ := d
   dsimp only at *
   subst e e3
   cases e'
   rw [show koff + 0 * 5 = koff by omega] at hc0
   rw [show koff + (0 + 1) * 5 = koff + 5 by omega] at hc1
   have hk0 := fun W (hb : Below w.heap.size w W) => cells5_same hc0 (hb.block kb (cells5_lt hc0))
   have hk1 := fun W (hb : Below w.heap.size w W) => cells5_same hc1 (hb.block kb (cells5_lt hc1))
   have hcx := fun (q : Nat) (hq : q < 2 ^ (xs.length + 1)) W (hb : Below w.heap.size w W) => ends66 (ao := ao) (cap := cap) hn x hV.2.1 q hq d0 W (hx.later hb) (TR.later (fun k hk => hb.block k hk) _ hx0)
   have hcy := fun (q : Nat) (hq : q < 2 ^ (xs.length + 1)) W (hb : Below w.heap.size w W) => ends66 (ao := ao) (cap := cap) hn y hV.2.2 q hq d1 W (hx.later hb) (TR.later (fun k hk => hb.block k hk) _ hy0)
   unfold rxOf E.eM
   rcases hV.1 with rfl | rfl
   · rw [if_pos rfl]
     exact ends8_cat da dn dsp dsl dsc 2 dkc hk0 hk1 (Nat.le_refl _) m _ _ (hcx m hm) (hcy _ (hok m hm).1)
   · rw [if_neg (by decide)]
     exact ends8_alt da dn dsp dsl dsc 2 dkc hk0 hk1 (Nat.le_refl _) m _ _ (h64 _ (hok m hm).1) (h64 _ (hok2 m hm).1) (hcx m hm) (hcy m hm)
 | .mk _ _ _ _ (_ :: _ :: _ :: _), hV, _, _, _, _, _, _ => by
   unfold Vp at hV
   exact hV.elim
end Go.Proofs.YtemanednddhfaaaGreatDoor
