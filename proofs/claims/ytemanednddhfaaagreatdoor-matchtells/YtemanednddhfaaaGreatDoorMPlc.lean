/- Joined: Nds Shs Plc. -/
import Derived.Test.YtemanednddhfaaaGreatDoorMPrs
import Derived.Shelf.Slices.In.CompactS
import Derived.Shelf.Slices.In.SortNone
import Derived.Shelf.Slices.Reverse
import Derived.Test.YtemanednddhfaaaGreatDoorProg
import Derived.KernelRfl
namespace Go.Proofs.YtemanednddhfaaaGreatDoor
open Go.RowKit Go.Shelf
open E (T)
attribute [local go_sem] Oper.semAt_some
theorem below_put {n k : Nat} (W : World) (o : Obj) (h : n ≤ k) : Below n W (W.putObj k o) :=
 ⟨rfl, rfl, rfl, by rw [World.putObj_size]; exact Nat.le_refl _, fun j hj => World.putObj_heap_other (by omega)⟩
theorem pairs_make (d e : ND) (w : World) : Calls Tryz.prog 110 #[d.v, e.v] w fun x w' => x = .returned (.func (.func 138) #[] #[.pointer (some ⟨w.heap.size, 0, none⟩), .pointer (some ⟨w.heap.size + 1, 0, none⟩)]) ∧
   w' = (w.alloc (.cells #[.int .i64 d.k, .int .i64 d.a, .slice d.sp d.sl d.sc, .string d.n, .slice d.kp d.kl d.kc] 26)).alloc (.cells #[.int .i64 e.k, .int .i64 e.a, .slice e.sp e.sl e.sc, .string e.n, .slice e.kp e.kl e.kc] 26) := by
 unfold ND.v
 go_enter Tryz.func110, Tryz.ntmps110
 go_wp2
 go_ret
 exact ⟨rfl, rfl⟩
theorem nodes_make (d : ND) (w : World) : Calls Tryz.prog 76 #[d.v] w fun x w' => x = .returned (.func (.func 109) #[] #[.pointer (some ⟨w.heap.size, 0, none⟩)]) ∧ w' = w.alloc (.cells #[.int .i64 d.k, .int .i64 d.a, .slice d.sp d.sl d.sc, .string d.n, .slice d.kp d.kl d.kc] 26) := by
 unfold ND.v
 go_enter Tryz.func76, Tryz.ntmps76
 go_wp2
 go_ret
 exact ⟨rfl, rfl⟩
set_option maxRecDepth 100000 in
set_option maxHeartbeats 8000000 in
theorem nodes_in (n : Nat) (hn : 3 ≤ n) (w0 : World) (t : T) (d : ND) (hT : TR w0 (fun _ => True) t d.v) (hps : (E.pre t t).length ≤ 1000000) (m0 be l : Nat) (hm : w0.heap.size ≤ m0) (hbe : m0 ≤ be)
   (J Stop : Nat → World → Prop) (W0 : World) (hxe : W0.heap[be]? = some (.cells #[.int .i64 d.k, .int .i64 d.a, .slice d.sp d.sl d.sc, .string d.n, .slice d.kp d.kl d.kc] 26)) (hB0 : Below w0.heap.size w0 W0)
   (hJ : ∀ i W W', J i W → KpT W0.heap.size W W' → J i W') (hS : ∀ i W W', Stop i W → Below W0.heap.size W W' → Stop i W')
   (hY : ∀ i (hi : i < (E.pre t t).length) W (d1 : ND), J i W → W0.heap.size ≤ W.heap.size → Below w0.heap.size w0 W → TR w0 (fun _ => True) (E.pre t t)[i].1 d1.v →
     YieldAt Fence.wide (n - 3) Tryz.prog l #[d1.v] W fun e W' => (e = .returned (.bool true) ∧ Fr w0.heap.size m0 W W' ∧ J (i + 1) W') ∨ (e = .returned (.bool false) ∧ (∀ k, m0 ≤ k → k < W.heap.size → k ≠ l → W'.heap[k]? = W.heap[k]?) ∧ Stop i W'))
   (hlw : l < W0.heap.size)
   (h0 : J 0 W0) :
   CallsIn Fence.wide n Tryz.prog 109 #[.func (.yield l) #[] #[], .pointer (some ⟨be, 0, none⟩)] W0 fun e W' => (∃ v, e = .returned v) ∧ (J (E.pre t t).length W' ∨ ∃ i, i < (E.pre t t).length ∧ Stop i W') := by
 obtain ⟨c0, c1, c2, c3, c4⟩ := cells_five hxe
 have hlte : be < W0.heap.size := (Array.getElem?_eq_some_iff.1 hxe).1
 have hs0 := hB0.size
 have hmk := fun W => pairs_make d d W
 unfold ND.v at hmk
 have ax := al1 W0 (.cells #[.func (.yield l) #[] #[]] 56)
 refine callsIn_of_wp_marks Tryz.func109 rfl trivial ?_ rfl
 simp only [Tryz.ntmps109, List.size_toArray, List.length_cons, List.length_nil, Nat.reduceAdd, Nat.reduceSub, Array.replicate_succ, Array.replicate_zero, List.push_toArray, List.append_toArray, List.nil_append, List.cons_append]
 gi_wp2_with fail
 refine ⟨trivial, (fun h => by cases h), ?_⟩
 refine (callsIn_wide.2 (hmk _)).mono ?_
 rintro e w2 ⟨rfl, rfl⟩
 have ny := heap_alloc_new W0 (.cells #[.func (.yield l) #[] #[]] 56)
 have s1 : (W0.alloc (.cells #[.func (.yield l) #[] #[]] 56)).heap.size = W0.heap.size + 1 := by simp
 obtain ⟨X1, hX1⟩ : ∃ X1, W0.alloc (.cells #[.func (.yield l) #[] #[]] 56) = X1 := ⟨_, rfl⟩
 rw [hX1] at ny s1 ax ⊢
 have a2 := al1 X1 (.cells #[.int .i64 d.k, .int .i64 d.a, .slice d.sp d.sl d.sc, .string d.n, .slice d.kp d.kl d.kc] 26)
 have n2 := heap_alloc_new X1 (.cells #[.int .i64 d.k, .int .i64 d.a, .slice d.sp d.sl d.sc, .string d.n, .slice d.kp d.kl d.kc] 26)
 have a3 := al1 (X1.alloc (.cells #[.int .i64 d.k, .int .i64 d.a, .slice d.sp d.sl d.sc, .string d.n, .slice d.kp d.kl d.kc] 26)) (.cells #[.int .i64 d.k, .int .i64 d.a, .slice d.sp d.sl d.sc, .string d.n, .slice d.kp d.kl d.kc] 26)
 have n3 := heap_alloc_new (X1.alloc (.cells #[.int .i64 d.k, .int .i64 d.a, .slice d.sp d.sl d.sc, .string d.n, .slice d.kp d.kl d.kc] 26)) (.cells #[.int .i64 d.k, .int .i64 d.a, .slice d.sp d.sl d.sc, .string d.n, .slice d.kp d.kl d.kc] 26)
 have n2' := (a3.block X1.heap.size (by simp)).trans n2
 have ny' := ((nx a2 a3).block W0.heap.size (by omega)).trans ny
 have bX := nx ax (nx a2 a3)
 have s3 : ((X1.alloc (.cells #[.int .i64 d.k, .int .i64 d.a, .slice d.sp d.sl d.sc, .string d.n, .slice d.kp d.kl d.kc] 26)).alloc (.cells #[.int .i64 d.k, .int .i64 d.a, .slice d.sp d.sl d.sc, .string d.n, .slice d.kp d.kl d.kc] 26)).heap.size = X1.heap.size + 2 := by simp
 rw [World.size_alloc] at n3
 obtain ⟨X3, hX3⟩ : ∃ X3, (X1.alloc (.cells #[.int .i64 d.k, .int .i64 d.a, .slice d.sp d.sl d.sc, .string d.n, .slice d.kp d.kl d.kc] 26)).alloc (.cells #[.int .i64 d.k, .int .i64 d.a, .slice d.sp d.sl d.sc, .string d.n, .slice d.kp d.kl d.kc] 26) = X3 := ⟨_, rfl⟩
 rw [hX3] at n2' n3 ny' bX s3 ⊢
 rw [s1] at n2' n3 s3
 have S3 := hide s3
 have S1 := hide s1
 have z3 : W0.heap.size + 3 ≤ X3.heap.size := by omega
 clear s1 s3
 clear hX1 hX3 a2 a3 n2 ny ax c0 c1 c2 c3 c4
 rw [S1.out]
 gi_wp2
 refine enter3 (gf := 138) (lb := #[.pointer (some ⟨W0.heap.size + 1, 0, none⟩), .pointer (some ⟨W0.heap.size + 1 + 1, 0, none⟩)]) rfl (enters_of Tryz.func138 (by kernel_rfl) rfl) ?_
 intro r We hr hrec hdef hszE hbE
 have bE := nx bX hbE
 have hBE := hB0.trans (bE.mono hs0)
 refine (pairs_in (n - 1) (by omega) w0 t t d d hT hT hps m0 (W0.heap.size + 1) (W0.heap.size + 1 + 1) (X3.heap.size + 1) hm (by omega) (by omega)
   (fun i A => J i A ∧ A.heap[W0.heap.size]? = some (.cells #[.func (.yield l) #[] #[]] 56) ∧ A.heap[X3.heap.size + 1]? = some (.loop r) ∧ A.heap[X3.heap.size]? = some (.deferred (some [])))
   (fun i A => Stop i A ∧ (∃ rd : Loop, rd.state = .done ∧ rd.pending = some .ret ∧ A.heap[X3.heap.size + 1]? = some (.loop rd)) ∧ A.heap[X3.heap.size]? = some (.deferred (some []))) We
   ((hbE.block _ (by omega)).trans n2') ((hbE.block _ (by omega)).trans n3) hBE ?stable ?round ?start).mono ?_
 case stable =>
   rintro i A A' ⟨j1, j2, j3, j4⟩ hb
   exact ⟨hJ _ _ _ j1 (hb.mono (by omega)), (hb.below.block _ (by omega)).trans j2, (hb.below.block _ (by omega)).trans j3, (hb.below.block _ (by omega)).trans j4⟩
 case start => exact ⟨hJ _ _ _ h0 (KpT.of bE (Nat.le_refl _)), (hbE.block _ (by omega)).trans ny', hrec.out, hdef.out⟩
 case round =>
   rintro i hi A d1 d2 ⟨j1, j2, j3, j4⟩ hle hBA ht1 _
   refine yield3 hr j3 rfl ?_
   unfold ND.v
   gi_wp2
   have hl1 : X3.heap.size + 1 < A.heap.size := (Array.getElem?_eq_some_iff.1 j3).1
   have ha := al1 A (.cells #[.int .i64 d1.k, .int .i64 d1.a, .slice d1.sp d1.sl d1.sc, .string d1.n, .slice d1.kp d1.kl d1.kc] 26)
   have hx3 := heap_alloc_new A (.cells #[.int .i64 d1.k, .int .i64 d1.a, .slice d1.sp d1.sl d1.sc, .string d1.n, .slice d1.kp d1.kl d1.kc] 26)
   refine ⟨(ha.block _ hl1).trans j3, ?_⟩
   intro rb
   have hne : ∀ k, k ≠ X3.heap.size + 1 → ((A.alloc (.cells #[.int .i64 d1.k, .int .i64 d1.a, .slice d1.sp d1.sl d1.sc, .string d1.n, .slice d1.kp d1.kl d1.kc] 26)).putObj (X3.heap.size + 1) (.loop rb)).heap[k]? = (A.alloc (.cells #[.int .i64 d1.k, .int .i64 d1.a, .slice d1.sp d1.sl d1.sc, .string d1.n, .slice d1.kp d1.kl d1.kc] 26)).heap[k]? := fun k hk => World.putObj_heap_other hk
   have k3 : Hid (((A.alloc (.cells #[.int .i64 d1.k, .int .i64 d1.a, .slice d1.sp d1.sl d1.sc, .string d1.n, .slice d1.kp d1.kl d1.kc] 26)).putObj (X3.heap.size + 1) (.loop rb)).heap[X3.heap.size + 1]? = some (.loop rb)) := World.putObj_heap_same (by simp; omega)
   have k2 := (hne W0.heap.size (by omega)).trans ((ha.block _ (by omega)).trans j2)
   have k4 := hide ((hne X3.heap.size (by omega)).trans ((ha.block _ (by omega)).trans j4))
   have kx := (hne A.heap.size (by omega)).trans hx3
   have kbT : KpT W0.heap.size A ((A.alloc (.cells #[.int .i64 d1.k, .int .i64 d1.a, .slice d1.sp d1.sl d1.sc, .string d1.n, .slice d1.kp d1.kl d1.kc] 26)).putObj (X3.heap.size + 1) (.loop rb)) := (KpT.of ha (by omega)).put (by omega) ((ha.block _ hl1).trans j3) rfl _
   have kb : Below W0.heap.size A ((A.alloc (.cells #[.int .i64 d1.k, .int .i64 d1.a, .slice d1.sp d1.sl d1.sc, .string d1.n, .slice d1.kp d1.kl d1.kc] 26)).putObj (X3.heap.size + 1) (.loop rb)) := (ha.mono (by omega)).trans (below_put _ _ (by omega))
   have ksame : Hid (∀ k, k < A.heap.size → k ≠ X3.heap.size + 1 → ((A.alloc (.cells #[.int .i64 d1.k, .int .i64 d1.a, .slice d1.sp d1.sl d1.sc, .string d1.n, .slice d1.kp d1.kl d1.kc] 26)).putObj (X3.heap.size + 1) (.loop rb)).heap[k]? = A.heap[k]?) := hide (fun k hk hk' => (hne k hk').trans (ha.block k hk))
   have kz : A.heap.size < ((A.alloc (.cells #[.int .i64 d1.k, .int .i64 d1.a, .slice d1.sp d1.sl d1.sc, .string d1.n, .slice d1.kp d1.kl d1.kc] 26)).putObj (X3.heap.size + 1) (.loop rb)).heap.size := (Array.getElem?_eq_some_iff.1 kx).1
   obtain ⟨A1, hA1⟩ : ∃ A1, (A.alloc (.cells #[.int .i64 d1.k, .int .i64 d1.a, .slice d1.sp d1.sl d1.sc, .string d1.n, .slice d1.kp d1.kl d1.kc] 26)).putObj (X3.heap.size + 1) (.loop rb) = A1 := ⟨_, rfl⟩
   rw [hA1] at k3 k2 k4 kx kb kbT ksame kz ⊢
   clear hA1 hne ha hx3
   have HJ3 := hide j3
   have kos := hide (⟨kb.os, kb.tape, kb.output⟩ : A1.os = A.os ∧ A1.tape = A.tape ∧ A1.output = A.output)
   obtain ⟨fn, tmps, assign, body, hy, hR⟩ := yield_anyN (n - 1 - 1 - 1) (hY i hi A1 d1 (hJ _ _ _ j1 kbT) (by omega) (hBA.trans (kb.mono hs0)) ht1)
   unfold ND.v at hy
   obtain ⟨q0, q1, q2, q3, q4⟩ := cells_five kx
   have cy : A1.cell? ⟨W0.heap.size, 0, none⟩ = some (.func (.yield l) #[] #[]) := by simp [World.cell?, k2]
   clear j1 j2 j3 j4 kb kbT hY
   gi_wp2
   refine ⟨(fun h => by cases h), RoundIn.mono (F := Fence.wide.inRound (X3.heap.size + 1)) hR ?_⟩
   rintro e W4 (⟨rfl, hfr, hJ4⟩ | ⟨rfl, hfx, hS4⟩)
   · have m3 := hfr.keep k3.out (by omega)
     have m2 := hfr.keep k2 (by omega)
     have m4 := hfr.keep k4.out (by omega)
     have HFR := hide hfr
     have M3 := hide m3
     have M2 := hide m2
     have M4 := hide m4
     clear hfr m3 m2 m4 hy hR q0 q1 q2 q3 q4 cy
     gi_wp2
     have hnp : ∀ k, k ≠ X3.heap.size + 1 → (W4.putObj (X3.heap.size + 1) (.loop r)).heap[k]? = W4.heap[k]? := fun k hk => World.putObj_heap_other hk
     have hsame : (W4.putObj (X3.heap.size + 1) (.loop r)).heap[X3.heap.size + 1]? = some (.loop r) := World.putObj_heap_same (Array.getElem?_eq_some_iff.1 M3.out).1
     have hsz4 := HFR.out.size
     refine ⟨M3.out, .inl ⟨rfl, ⟨HFR.out.os.trans kos.out.1, HFR.out.tape.trans kos.out.2.1, HFR.out.output.trans kos.out.2.2, by rw [World.putObj_size]; omega, fun k hk => ?_, fun k hk hk' hs' => ?_⟩, hJ _ _ _ hJ4 ((KpT.refl _ _).put (by omega) M3.out rfl _), (hnp _ (by omega)).trans M2.out, hsame, (hnp _ (by omega)).trans M4.out⟩⟩
     · rw [hnp k (by omega), HFR.out.lo k hk]
       exact ksame.out k (by omega) (by omega)
     · by_cases he : k = X3.heap.size + 1
       · rw [he, hsame]; exact HJ3.out.symm
       · rw [hnp k he, HFR.out.hi k hk (by omega) (by rw [ksame.out k hk' he]; exact hs')]
         exact ksame.out k hk' he
   · have m3 := hide ((hfx (X3.heap.size + 1) (by omega) (by omega) (by omega)).trans k3.out)
     have m4 := hide ((hfx X3.heap.size (by omega) (by omega) (by omega)).trans k4.out)
     have HS4 := hide hS4
     clear hy hR q0 q1 q2 q3 q4 cy hfx hS4
     gi_wp2
     refine ⟨m3.out, fun rd h1 h2 => .inr ⟨rfl, hS _ _ _ HS4.out (below_put _ _ (by omega)), ⟨rd, h1, h2, World.putObj_heap_same (Array.getElem?_eq_some_iff.1 m3.out).1⟩, (World.putObj_heap_other (by omega)).trans m4.out⟩⟩
 rintro e W' ⟨hv, h⟩
 refine ⟨hv, ?_⟩
 have hdone : ∀ (W9 : World), W9.heap[X3.heap.size]? = some (.deferred (some [])) → Below W0.heap.size W9 (W9.putObj X3.heap.size (.deferred none)) := fun W9 _ => below_put _ _ (by omega)
 rcases h with ⟨j1, _, j3, j4⟩ | ⟨i, hi, hst, ⟨rd, hd1, hd2, hd3⟩, j4⟩
 · refine .inl ⟨j3, fun r' => ?_⟩
   have k4 := (World.putObj_heap_other (w := W') (o := .loop r') (show X3.heap.size ≠ X3.heap.size + 1 by omega)).trans j4
   have kJ := hJ _ _ _ j1 ((KpT.refl W0.heap.size W').put (show W0.heap.size ≤ X3.heap.size + 1 by omega) j3 rfl (.loop r'))
   generalize W'.putObj (X3.heap.size + 1) (.loop r') = W9 at *
   gi_wp2
   refine ⟨by simp, .inl ⟨_, _, rfl, run_takeDeferred k4, ?_⟩⟩
   exact ⟨_, results_none rfl _ _ _, ⟨_, rfl⟩, .inl (hJ _ _ _ kJ ((KpT.refl _ _).put (by omega) k4 rfl _))⟩
 · refine .inr ⟨rd, hd1, hd2, hd3, fun r' => ?_⟩
   have k4 := (World.putObj_heap_other (w := W') (o := .loop r') (show X3.heap.size ≠ X3.heap.size + 1 by omega)).trans j4
   have kS := hS _ _ _ hst (below_put (n := W0.heap.size) W' (.loop r') (show W0.heap.size ≤ X3.heap.size + 1 by omega))
   generalize W'.putObj (X3.heap.size + 1) (.loop r') = W9 at *
   gi_wp2
   refine ⟨by simp, .inl ⟨_, _, rfl, run_takeDeferred k4, ?_⟩⟩
   exact ⟨_, results_none rfl _ _ _, ⟨_, rfl⟩, .inr ⟨i, hi, hS _ _ _ kS (hdone _ k4)⟩⟩
end Go.Proofs.YtemanednddhfaaaGreatDoor
namespace Go.Proofs.YtemanednddhfaaaGreatDoor
open Go.Shelf Go.RowKit
def lays190_ren : Go.Shelf.Ren := ⟨fun | 190 => 79 | 125 => 116 | 258 => 115 | 128 => 149 | 129 => 150 | 302 => 140 | 303 => 141 | 304 => 142 | 305 => 143 | 306 => 144 | 307 => 145 | 308 => 146 | 309 => 147 | 310 => 148 | 333 => 166 | 329 => 167 | 330 => 168 | 334 => 169 | 335 => 170 | 336 => 171 | 344 => 184 | n => n, fun | 31 => 57 | 9 => 9 | 3 => 3 | 46 => 34 | 0 => 0 | 51 => 198 | 53 => 33 | 4 => 4 | 183 => 190 | 182 => 189 | 131 => 195 | 5 => 5 | 218 => 212 | 222 => 215 | 228 => 231 | 229 => 232 | n => n, fun | n => n⟩
theorem lays190 : Go.Proofs.Lays.n190 Tryz.prog lays190_ren := {
 mixed := by kernel_rfl
 f125 := Tryz.func116.trans (congrArg some (by kernel_rfl))
 f128 := Tryz.func149.trans (congrArg some (by kernel_rfl))
 f129 := Tryz.func150.trans (congrArg some (by kernel_rfl))
 f190 := Tryz.func79.trans (congrArg some (by kernel_rfl))
 f258 := Tryz.func115.trans (congrArg some (by kernel_rfl))
 f302 := Tryz.func140.trans (congrArg some (by kernel_rfl))
 f303 := Tryz.func141.trans (congrArg some (by kernel_rfl))
 f304 := Tryz.func142.trans (congrArg some (by kernel_rfl))
 f305 := Tryz.func143.trans (congrArg some (by kernel_rfl))
 f306 := Tryz.func144.trans (congrArg some (by kernel_rfl))
 f307 := Tryz.func145.trans (congrArg some (by kernel_rfl))
 f308 := Tryz.func146.trans (congrArg some (by kernel_rfl))
 f309 := Tryz.func147.trans (congrArg some (by kernel_rfl))
 f310 := Tryz.func148.trans (congrArg some (by kernel_rfl))
 f329 := Tryz.func167.trans (congrArg some (by kernel_rfl))
 f330 := Tryz.func168.trans (congrArg some (by kernel_rfl))
 f333 := Tryz.func166.trans (congrArg some (by kernel_rfl))
 f334 := Tryz.func169.trans (congrArg some (by kernel_rfl))
 f335 := Tryz.func170.trans (congrArg some (by kernel_rfl))
 f336 := Tryz.func171.trans (congrArg some (by kernel_rfl))
 f344 := Tryz.func184.trans (congrArg some (by kernel_rfl))
 t0 := Tryz.underlying0
 a0 := Tryz.isAgg0
 z0 := Tryz.sizeOf0
 v0 := Tryz.zeroValue0
 t3 := Tryz.underlying3
 a3 := Tryz.isAgg3
 z3 := Tryz.sizeOf3
 v3 := Tryz.zeroValue3
 t4 := Tryz.underlying4
 a4 := Tryz.isAgg4
 z4 := Tryz.sizeOf4
 v4 := Tryz.zeroValue4
 t5 := Tryz.underlying5
 a5 := Tryz.isAgg5
 z5 := Tryz.sizeOf5
 v5 := Tryz.zeroValue5
 t9 := Tryz.underlying9
 a9 := Tryz.isAgg9
 z9 := Tryz.sizeOf9
 v9 := Tryz.zeroValue9
 t31 := Tryz.underlying57
 a31 := Tryz.isAgg57
 z31 := Tryz.sizeOf57
 v31 := Tryz.zeroValue57
 t46 := Tryz.underlying34
 a46 := Tryz.isAgg34
 z46 := Tryz.sizeOf34
 v46 := Tryz.zeroValue34
 t51 := Tryz.underlying198
 a51 := Tryz.isAgg198
 z51 := Tryz.sizeOf198
 v51 := Tryz.zeroValue198
 t53 := Tryz.underlying33
 a53 := Tryz.isAgg33
 z53 := Tryz.sizeOf33
 v53 := Tryz.zeroValue33
 t131 := Tryz.underlying195
 a131 := Tryz.isAgg195
 z131 := Tryz.sizeOf195
 v131 := Tryz.zeroValue195
 t182 := Tryz.underlying189
 a182 := Tryz.isAgg189
 z182 := Tryz.sizeOf189
 v182 := Tryz.zeroValue189
 t183 := Tryz.underlying190
 a183 := Tryz.isAgg190
 z183 := Tryz.sizeOf190
 v183 := Tryz.zeroValue190
 t218 := Tryz.underlying212
 a218 := Tryz.isAgg212
 z218 := Tryz.sizeOf212
 v218 := Tryz.zeroValue212
 t222 := Tryz.underlying215
 a222 := Tryz.isAgg215
 z222 := Tryz.sizeOf215
 v222 := Tryz.zeroValue215
 t228 := Tryz.underlying231
 a228 := Tryz.isAgg231
 z228 := Tryz.sizeOf231
 v228 := Tryz.zeroValue231
 t229 := Tryz.underlying232
 a229 := Tryz.isAgg232
 z229 := Tryz.sizeOf232
 v229 := Tryz.zeroValue232 }
def lays194_ren : Go.Shelf.Ren := ⟨fun | 194 => 80 | n => n, fun | 31 => 57 | 9 => 9 | 3 => 3 | 4 => 4 | 0 => 0 | n => n, fun | n => n⟩
theorem lays194 : Go.Proofs.Lays.n194 Tryz.prog lays194_ren := {
 mixed := by kernel_rfl
 f194 := Tryz.func80.trans (congrArg some (by kernel_rfl))
 t0 := Tryz.underlying0
 a0 := Tryz.isAgg0
 z0 := Tryz.sizeOf0
 v0 := Tryz.zeroValue0
 t3 := Tryz.underlying3
 a3 := Tryz.isAgg3
 z3 := Tryz.sizeOf3
 v3 := Tryz.zeroValue3
 t4 := Tryz.underlying4
 a4 := Tryz.isAgg4
 z4 := Tryz.sizeOf4
 v4 := Tryz.zeroValue4
 t9 := Tryz.underlying9
 a9 := Tryz.isAgg9
 z9 := Tryz.sizeOf9
 v9 := Tryz.zeroValue9
 t31 := Tryz.underlying57
 a31 := Tryz.isAgg57
 z31 := Tryz.sizeOf57
 v31 := Tryz.zeroValue57 }
end Go.Proofs.YtemanednddhfaaaGreatDoor
namespace Go.Proofs.YtemanednddhfaaaGreatDoor
open Go.RowKit Go.Shelf
open E (T)
attribute [local go_sem] Oper.semAt_some
theorem TR.kindE {w : World} {ok : Nat → Prop} {t : T} {d : ND} (h : TR w ok t d.v) : d.k = t.kind := by
 obtain ⟨d', e, h1, _⟩ := h.nd
 unfold ND.v at e
 simp only [Value.agg.injEq, Array.mk.injEq, List.cons.injEq, Value.int.injEq] at e
 rw [← h1]
 exact e.1.2
end Go.Proofs.YtemanednddhfaaaGreatDoor
