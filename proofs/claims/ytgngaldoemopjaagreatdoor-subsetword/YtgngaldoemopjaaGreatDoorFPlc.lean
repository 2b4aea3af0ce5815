/- Joined: Nds Shs Plc. -/
import Derived.Test.YtgngaldoemopjaaGreatDoorFPrs
import Derived.Shelf.Slices.In.CompactS
import Derived.Shelf.Slices.In.SortNone
import Derived.Shelf.Slices.Reverse
import Derived.Test.YtgngaldoemopjaaGreatDoorProg
import Derived.KernelRfl
namespace Go.Proofs.YtgngaldoemopjaaGreatDoor
open Go.RowKit Go.Shelf
open E (T)
attribute [local go_sem] Oper.semAt_some
theorem below_put {n k : Nat} (W : World) (o : Obj) (h : n ≤ k) : Below n W (W.putObj k o) :=
 ⟨rfl, rfl, rfl, by rw [World.putObj_size]; exact Nat.le_refl _, fun j hj => World.putObj_heap_other (by omega)⟩
theorem pairs_make (d e : ND) (w : World) : Calls Tryz.prog 90 #[d.v, e.v] w fun x w' => x = .returned (.func (.func 117) #[] #[.pointer (some ⟨w.heap.size, 0, none⟩), .pointer (some ⟨w.heap.size + 1, 0, none⟩)]) ∧
   w' = (w.alloc (.cells #[.int .i64 d.k, .int .i64 d.a, .slice d.sp d.sl d.sc, .string d.n, .slice d.kp d.kl d.kc] 25)).alloc (.cells #[.int .i64 e.k, .int .i64 e.a, .slice e.sp e.sl e.sc, .string e.n, .slice e.kp e.kl e.kc] 25) := by
 unfold ND.v
 go_enter Tryz.func90, Tryz.ntmps90
 go_wp2
 go_ret
 exact ⟨rfl, rfl⟩
theorem nodes_make (d : ND) (w : World) : Calls Tryz.prog 58 #[d.v] w fun x w' => x = .returned (.func (.func 89) #[] #[.pointer (some ⟨w.heap.size, 0, none⟩)]) ∧ w' = w.alloc (.cells #[.int .i64 d.k, .int .i64 d.a, .slice d.sp d.sl d.sc, .string d.n, .slice d.kp d.kl d.kc] 25) := by
 unfold ND.v
 go_enter Tryz.func58, Tryz.ntmps58
 go_wp2
 go_ret
 exact ⟨rfl, rfl⟩
set_option maxRecDepth 100000 in
set_option maxHeartbeats 8000000 in
theorem nodes_in (n : Nat) (hn : 3 ≤ n) (w0 : World) (t : T) (d : ND) (hT : TR w0 (fun _ => True) t d.v) (hps : (E.pre t t).length ≤ 1000000) (m0 be l : Nat) (hm : w0.heap.size ≤ m0) (hbe : m0 ≤ be)
   (J Stop : Nat → World → Prop) (W0 : World) (hxe : W0.heap[be]? = some (.cells #[.int .i64 d.k, .int .i64 d.a, .slice d.sp d.sl d.sc, .string d.n, .slice d.kp d.kl d.kc] 25)) (hB0 : Below w0.heap.size w0 W0)
   (hJ : ∀ i W W', J i W → KpT W0.heap.size W W' → J i W') (hS : ∀ i W W', Stop i W → Below W0.heap.size W W' → Stop i W')
   (hY : ∀ i (hi : i < (E.pre t t).length) W (d1 : ND), J i W → W0.heap.size ≤ W.heap.size → Below w0.heap.size w0 W → TR w0 (fun _ => True) (E.pre t t)[i].1 d1.v →
     YieldAt Fence.wide (n - 3) Tryz.prog l #[d1.v] W fun e W' => (e = .returned (.bool true) ∧ Fr w0.heap.size m0 W W' ∧ J (i + 1) W') ∨ (e = .returned (.bool false) ∧ (∀ k, m0 ≤ k → k < W.heap.size → k ≠ l → W'.heap[k]? = W.heap[k]?) ∧ Stop i W'))
   (hlw : l < W0.heap.size)
   (h0 : J 0 W0) :
   CallsIn Fence.wide n Tryz.prog 89 #[.func (.yield l) #[] #[], .pointer (some ⟨be, 0, none⟩)] W0 fun e W' => (∃ v, e = .returned v) ∧ (J (E.pre t t).length W' ∨ ∃ i, i < (E.pre t t).length ∧ Stop i W') := by
 obtain ⟨c0, c1, c2, c3, c4⟩ := cells_five hxe
 have hlte : be < W0.heap.size := (Array.getElem?_eq_some_iff.1 hxe).1
 have hs0 := hB0.size
 have hmk := fun W => pairs_make d d W
 unfold ND.v at hmk
 have ax := al1 W0 (.cells #[.func (.yield l) #[] #[]] 38)
 refine callsIn_of_wp_marks Tryz.func89 rfl trivial ?_ rfl
 simp only [Tryz.ntmps89, List.size_toArray, List.length_cons, List.length_nil, Nat.reduceAdd, Nat.reduceSub, Array.replicate_succ, Array.replicate_zero, List.push_toArray, List.append_toArray, List.nil_append, List.cons_append]
 gi_wp2_with fail
 refine ⟨trivial, (fun h => by cases h), ?_⟩
 refine (callsIn_wide.2 (hmk _)).mono ?_
 rintro e w2 ⟨rfl, rfl⟩
 have ny := heap_alloc_new W0 (.cells #[.func (.yield l) #[] #[]] 38)
 have s1 : (W0.alloc (.cells #[.func (.yield l) #[] #[]] 38)).heap.size = W0.heap.size + 1 := by simp
 obtain ⟨X1, hX1⟩ : ∃ X1, W0.alloc (.cells #[.func (.yield l) #[] #[]] 38) = X1 := ⟨_, rfl⟩
 rw [hX1] at ny s1 ax ⊢
 have a2 := al1 X1 (.cells #[.int .i64 d.k, .int .i64 d.a, .slice d.sp d.sl d.sc, .string d.n, .slice d.kp d.kl d.kc] 25)
 have n2 := heap_alloc_new X1 (.cells #[.int .i64 d.k, .int .i64 d.a, .slice d.sp d.sl d.sc, .string d.n, .slice d.kp d.kl d.kc] 25)
 have a3 := al1 (X1.alloc (.cells #[.int .i64 d.k, .int .i64 d.a, .slice d.sp d.sl d.sc, .string d.n, .slice d.kp d.kl d.kc] 25)) (.cells #[.int .i64 d.k, .int .i64 d.a, .slice d.sp d.sl d.sc, .string d.n, .slice d.kp d.kl d.kc] 25)
 have n3 := heap_alloc_new (X1.alloc (.cells #[.int .i64 d.k, .int .i64 d.a, .slice d.sp d.sl d.sc, .string d.n, .slice d.kp d.kl d.kc] 25)) (.cells #[.int .i64 d.k, .int .i64 d.a, .slice d.sp d.sl d.sc, .string d.n, .slice d.kp d.kl d.kc] 25)
 have n2' := (a3.block X1.heap.size (by simp)).trans n2
 have ny' := ((nx a2 a3).block W0.heap.size (by omega)).trans ny
 have bX := nx ax (nx a2 a3)
 have s3 : ((X1.alloc (.cells #[.int .i64 d.k, .int .i64 d.a, .slice d.sp d.sl d.sc, .string d.n, .slice d.kp d.kl d.kc] 25)).alloc (.cells #[.int .i64 d.k, .int .i64 d.a, .slice d.sp d.sl d.sc, .string d.n, .slice d.kp d.kl d.kc] 25)).heap.size = X1.heap.size + 2 := by simp
 rw [World.size_alloc] at n3
 obtain ⟨X3, hX3⟩ : ∃ X3, (X1.alloc (.cells #[.int .i64 d.k, .int .i64 d.a, .slice d.sp d.sl d.sc, .string d.n, .slice d.kp d.kl d.kc] 25)).alloc (.cells #[.int .i64 d.k, .int .i64 d.a, .slice d.sp d.sl d.sc, .string d.n, .slice d.kp d.kl d.kc] 25) = X3 := ⟨_, rfl⟩
 rw [hX3] at n2' n3 ny' bX s3 ⊢
 rw [s1] at n2' n3 s3
 have S3 := hide s3
 have S1 := hide s1
 have z3 : W0.heap.size + 3 ≤ X3.heap.size := by omega
 clear s1 s3
 clear hX1 hX3 a2 a3 n2 ny ax c0 c1 c2 c3 c4
 rw [S1.out]
 gi_wp2
 refine enter3 (gf := 117) (lb := #[.pointer (some ⟨W0.heap.size + 1, 0, none⟩), .pointer (some ⟨W0.heap.size + 1 + 1, 0, none⟩)]) rfl (enters_of Tryz.func117 (by kernel_rfl) rfl) ?_
 intro r We hr hrec hdef hszE hbE
 have bE := nx bX hbE
 have hBE := hB0.trans (bE.mono hs0)
 refine (pairs_in (n - 1) (by omega) w0 t t d d hT hT hps m0 (W0.heap.size + 1) (W0.heap.size + 1 + 1) (X3.heap.size + 1) hm (by omega) (by omega)
   (fun i A => J i A ∧ A.heap[W0.heap.size]? = some (.cells #[.func (.yield l) #[] #[]] 38) ∧ A.heap[X3.heap.size + 1]? = some (.loop r) ∧ A.heap[X3.heap.size]? = some (.deferred (some [])))
   (fun i A => Stop i A ∧ (∃ rd : Loop, rd.state = .done ∧ rd.pending = some .ret ∧ A.heap[X3.heap.size + 1]? = some (.loop rd)) ∧ A.heap[X3.heap.size]? = some (.deferred (some []))) We
   ((hbE.block _ (by omega)).trans n2') ((hbE.block _ (by omega)).trans n3) hBE ?stable ?round ?start).mono ?_
 case stable =>
   rintro i A A' ⟨j1, j2, j3, j4⟩ hb
   exact ⟨hJ _ _ _ j1 (hb.mono (by omega)), (hb.below.block _ (by omega)).trans j2, (hb.below.block _ (by omega)).trans j3, (hb.below.block _ (by omega)).trans j4⟩
 case start => exact ⟨hJ _ _ _ h0 (KpT.of bE (Nat.le_refl _)), (hbE.block _ (by omega)).trans ny', hrec.out, hdef.out⟩
 case round =>
   rintro i hi A d1 d2 ⟨j1, j2, j3, j4⟩ hle hBA ht1 _
   refine yield3 hr j3 rfl ?_
   unfold ND.v
   gi_wp2
   have hl1 : X3.heap.size + 1 < A.heap.size := (Array.getElem?_eq_some_iff.1 j3).1
   have ha := al1 A (.cells #[.int .i64 d1.k, .int .i64 d1.a, .slice d1.sp d1.sl d1.sc, .string d1.n, .slice d1.kp d1.kl d1.kc] 25)
   have hx3 := heap_alloc_new A (.cells #[.int .i64 d1.k, .int .i64 d1.a, .slice d1.sp d1.sl d1.sc, .string d1.n, .slice d1.kp d1.kl d1.kc] 25)
   refine ⟨(ha.block _ hl1).trans j3, ?_⟩
   intro rb
   have hne : ∀ k, k ≠ X3.heap.size + 1 → ((A.alloc (.cells #[.int .i64 d1.k, .int .i64 d1.a, .slice d1.sp d1.sl d1.sc, .string d1.n, .slice d1.kp d1.kl d1.kc] 25)).putObj (X3.heap.size + 1) (.loop rb)).heap[k]? = (A.alloc (.cells #[.int .i64 d1.k, .int .i64 d1.a, .slice d1.sp d1.sl d1.sc, .string d1.n, .slice d1.kp d1.kl d1.kc] 25)).heap[k]? := fun k hk => World.putObj_heap_other hk
   have k3 : Hid (((A.alloc (.cells #[.int .i64 d1.k, .int .i64 d1.a, .slice d1.sp d1.sl d1.sc, .string d1.n, .slice d1.kp d1.kl d1.kc] 25)).putObj (X3.heap.size + 1) (.loop rb)).heap[X3.heap.size + 1]? = some (.loop rb)) := World.putObj_heap_same (by simp; omega)
   have k2 := (hne W0.heap.size (by omega)).trans ((ha.block _ (by omega)).trans j2)
   have k4 := hide ((hne X3.heap.size (by omega)).trans ((ha.block _ (by omega)).trans j4))
   have kx := (hne A.heap.size (by omega)).trans hx3
   have kbT : KpT W0.heap.size A ((A.alloc (.cells #[.int .i64 d1.k, .int .i64 d1.a, .slice d1.sp d1.sl d1.sc, .string d1.n, .slice d1.kp d1.kl d1.kc] 25)).putObj (X3.heap.size + 1) (.loop rb)) := (KpT.of ha (by omega)).put (by omega) ((ha.block _ hl1).trans j3) rfl _
   have kb : Below W0.heap.size A ((A.alloc (.cells #[.int .i64 d1.k, .int .i64 d1.a, .slice d1.sp d1.sl d1.sc, .string d1.n, .slice d1.kp d1.kl d1.kc] 25)).putObj (X3.heap.size + 1) (.loop rb)) := (ha.mono (by omega)).trans (below_put _ _ (by omega))
   have ksame : Hid (∀ k, k < A.heap.size → k ≠ X3.heap.size + 1 → ((A.alloc (.cells #[.int .i64 d1.k, .int .i64 d1.a, .slice d1.sp d1.sl d1.sc, .string d1.n, .slice d1.kp d1.kl d1.kc] 25)).putObj (X3.heap.size + 1) (.loop rb)).heap[k]? = A.heap[k]?) := hide (fun k hk hk' => (hne k hk').trans (ha.block k hk))
   have kz : A.heap.size < ((A.alloc (.cells #[.int .i64 d1.k, .int .i64 d1.a, .slice d1.sp d1.sl d1.sc, .string d1.n, .slice d1.kp d1.kl d1.kc] 25)).putObj (X3.heap.size + 1) (.loop rb)).heap.size := (Array.getElem?_eq_some_iff.1 kx).1
   obtain ⟨A1, hA1⟩ : ∃ A1, (A.alloc (.cells #[.int .i64 d1.k, .int .i64 d1.a, .slice d1.sp d1.sl d1.sc, .string d1.n, .slice d1.kp d1.kl d1.kc] 25)).putObj (X3.heap.size + 1) (.loop rb) = A1 := ⟨_, rfl⟩
   rw [hA1] at k3 k2 k4 kx kb kbT ksame kz ⊢
   clear hA1 hne ha hx3
   have HJ3 := hide j3
   have kos := hide (⟨kb.os, kb.tape, kb.output⟩ : A1.os = A.os ∧ A1.tape = A.tape ∧ A1.output = A.output)
   obtain ⟨fn, tmps, assign, body, hy, hR⟩ := yield_anyN (n - 1 - 1 - 1) (hY i hi A1 d1 (hJ _ _ _ j1 kbT) (by omega) (hBA.trans (kb.mono hs0)) ht1)
   unfold ND.v at hy
   obtain ⟨q0, q1, q2, q3, q4⟩ := cells_five kx
   have cy : A1.cell? ⟨W0.heap.size, 0, none⟩ = some (.func (.yield l) #[] #[]) := by simp [World.cell?, k2]
   clear j1 j2 j3 j4 kb kbT hY
   gi_wp2
   refine ⟨(fun h => by cases h), RoundIn.mono (F := Fence.wide.inRound (X3.heap.size + 1)) hR ?_⟩
   rintro e W4 (⟨rfl, hfr, hJ4⟩ | ⟨rfl, hfx, hS4⟩)
   · have m3 := hfr.keep k3.out (by omega)
     have m2 := hfr.keep k2 (by omega)
     have m4 := hfr.keep k4.out (by omega)
     have HFR := hide hfr
     have M3 := hide m3
     have M2 := hide m2
     have M4 := hide m4
     clear hfr m3 m2 m4 hy hR q0 q1 q2 q3 q4 cy
     gi_wp2
     have hnp : ∀ k, k ≠ X3.heap.size + 1 → (W4.putObj (X3.heap.size + 1) (.loop r)).heap[k]? = W4.heap[k]? := fun k hk => World.putObj_heap_other hk
     have hsame : (W4.putObj (X3.heap.size + 1) (.loop r)).heap[X3.heap.size + 1]? = some (.loop r) := World.putObj_heap_same (Array.getElem?_eq_some_iff.1 M3.out).1
     have hsz4 := HFR.out.size
     refine ⟨M3.out, .inl ⟨rfl, ⟨HFR.out.os.trans kos.out.1, HFR.out.tape.trans kos.out.2.1, HFR.out.output.trans kos.out.2.2, by rw [World.putObj_size]; omega, fun k hk => ?_, fun k hk hk' hs' => ?_⟩, hJ _ _ _ hJ4 ((KpT.refl _ _).put (by omega) M3.out rfl _), (hnp _ (by omega)).trans M2.out, hsame, (hnp _ (by omega)).trans M4.out⟩⟩
     · rw [hnp k (by omega), HFR.out.lo k hk]
       exact ksame.out k (by omega) (by omega)
     · by_cases he : k = X3.heap.size + 1
       · rw [he, hsame]; exact HJ3.out.symm
       · rw [hnp k he, HFR.out.hi k hk (by omega) (by rw [ksame.out k hk' he]; exact hs')]
         exact ksame.out k hk' he
   · have m3 := hide ((hfx (X3.heap.size + 1) (by omega) (by omega) (by omega)).trans k3.out)
     have m4 := hide ((hfx X3.heap.size (by omega) (by omega) (by omega)).trans k4.out)
     have HS4 := hide hS4
     clear hy hR q0 q1 q2 q3 q4 cy hfx hS4
     gi_wp2
     refine ⟨m3.out, fun rd h1 h2 => .inr ⟨rfl, hS _ _ _ HS4.out (below_put _ _ (by omega)), ⟨rd, h1, h2, World.putObj_heap_same (Array.getElem?_eq_some_iff.1 m3.out).1⟩, (World.putObj_heap_other (by omega)).trans m4.out⟩⟩
 rintro e W' ⟨hv, h⟩
 refine ⟨hv, ?_⟩
 have hdone : ∀ (W9 : World), W9.heap[X3.heap.size]? = some (.deferred (some [])) → Below W0.heap.size W9 (W9.putObj X3.heap.size (.deferred none)) := fun W9 _ => below_put _ _ (by omega)
 rcases h with ⟨j1, _, j3, j4⟩ | ⟨i, hi, hst, ⟨rd, hd1, hd2, hd3⟩, j4⟩
 · refine .inl ⟨j3, fun r' => ?_⟩
   have k4 := (World.putObj_heap_other (w := W') (o := .loop r') (show X3.heap.size ≠ X3.heap.size + 1 by omega)).trans j4
   have kJ := hJ _ _ _ j1 ((KpT.refl W0.heap.size W').put (show W0.heap.size ≤ X3.heap.size + 1 by omega) j3 rfl (.loop r'))
   generalize W'.putObj (X3.heap.size + 1) (.loop r') = W9 at *
   gi_wp2
   refine ⟨by simp, .inl ⟨_, _, rfl, run_takeDeferred k4, ?_⟩⟩
   exact ⟨_, results_none rfl _ _ _, ⟨_, rfl⟩, .inl (hJ _ _ _ kJ ((KpT.refl _ _).put (by omega) k4 rfl _))⟩
 · refine .inr ⟨rd, hd1, hd2, hd3, fun r' => ?_⟩
   have k4 := (World.putObj_heap_other (w := W') (o := .loop r') (show X3.heap.size ≠ X3.heap.size + 1 by omega)).trans j4
   have kS := hS _ _ _ hst (below_put (n := W0.heap.size) W' (.loop r') (show W0.heap.size ≤ X3.heap.size + 1 by omega))
   generalize W'.putObj (X3.heap.size + 1) (.loop r') = W9 at *
   gi_wp2
   refine ⟨by simp, .inl ⟨_, _, rfl, run_takeDeferred k4, ?_⟩⟩
   exact ⟨_, results_none rfl _ _ _, ⟨_, rfl⟩, .inr ⟨i, hi, hS _ _ _ kS (hdone _ k4)⟩⟩
end Go.Proofs.YtgngaldoemopjaaGreatDoor
namespace Go.Proofs.YtgngaldoemopjaaGreatDoor
open Go.Shelf Go.RowKit
def lays190_ren : Go.Shelf.Ren := ⟨fun | 190 => 61 | 125 => 96 | 258 => 95 | 128 => 128 | 129 => 129 | 302 => 119 | 303 => 120 | 304 => 121 | 305 => 122 | 306 => 123 | 307 => 124 | 308 => 125 | 309 => 126 | 310 => 127 | 333 => 153 | 329 => 154 | 330 => 155 | 334 => 156 | 335 => 157 | 336 => 158 | 344 => 178 | n => n, fun | 31 => 81 | 9 => 9 | 3 => 3 | 46 => 61 | 0 => 0 | 51 => 212 | 53 => 35 | 4 => 4 | 183 => 205 | 182 => 204 | 131 => 120 | 5 => 5 | 218 => 226 | 222 => 229 | 228 => 249 | 229 => 250 | n => n, fun | n => n⟩
theorem lays190 : Go.Proofs.Lays.n190 Tryz.prog lays190_ren := {
 mixed := by kernel_rfl
 f125 := Tryz.func96.trans (congrArg some (by kernel_rfl))
 f128 := Tryz.func128.trans (congrArg some (by kernel_rfl))
 f129 := Tryz.func129.trans (congrArg some (by kernel_rfl))
 f190 := Tryz.func61.trans (congrArg some (by kernel_rfl))
 f258 := Tryz.func95.trans (congrArg some (by kernel_rfl))
 f302 := Tryz.func119.trans (congrArg some (by kernel_rfl))
 f303 := Tryz.func120.trans (congrArg some (by kernel_rfl))
 f304 := Tryz.func121.trans (congrArg some (by kernel_rfl))
 f305 := Tryz.func122.trans (congrArg some (by kernel_rfl))
 f306 := Tryz.func123.trans (congrArg some (by kernel_rfl))
 f307 := Tryz.func124.trans (congrArg some (by kernel_rfl))
 f308 := Tryz.func125.trans (congrArg some (by kernel_rfl))
 f309 := Tryz.func126.trans (congrArg some (by kernel_rfl))
 f310 := Tryz.func127.trans (congrArg some (by kernel_rfl))
 f329 := Tryz.func154.trans (congrArg some (by kernel_rfl))
 f330 := Tryz.func155.trans (congrArg some (by kernel_rfl))
 f333 := Tryz.func153.trans (congrArg some (by kernel_rfl))
 f334 := Tryz.func156.trans (congrArg some (by kernel_rfl))
 f335 := Tryz.func157.trans (congrArg some (by kernel_rfl))
 f336 := Tryz.func158.trans (congrArg some (by kernel_rfl))
 f344 := Tryz.func178.trans (congrArg some (by kernel_rfl))
 t0 := Tryz.underlying0
 a0 := Tryz.isAgg0
 z0 := Tryz.sizeOf0
 v0 := Tryz.zeroValue0
 t3 := Tryz.underlying3
 a3 := Tryz.isAgg3
 z3 := Tryz.sizeOf3
 v3 := Tryz.zeroValue3
 t4 := Tryz.underlying4
 a4 := Tryz.isAgg4
 z4 := Tryz.sizeOf4
 v4 := Tryz.zeroValue4
 t5 := Tryz.underlying5
 a5 := Tryz.isAgg5
 z5 := Tryz.sizeOf5
 v5 := Tryz.zeroValue5
 t9 := Tryz.underlying9
 a9 := Tryz.isAgg9
 z9 := Tryz.sizeOf9
 v9 := Tryz.zeroValue9
 t31 := Tryz.underlying81
 a31 := Tryz.isAgg81
 z31 := Tryz.sizeOf81
 v31 := Tryz.zeroValue81
 t46 := Tryz.underlying61
 a46 := Tryz.isAgg61
 z46 := Tryz.sizeOf61
 v46 := Tryz.zeroValue61
 t51 := Tryz.underlying212
 a51 := Tryz.isAgg212
 z51 := Tryz.sizeOf212
 v51 := Tryz.zeroValue212
 t53 := Tryz.underlying35
 a53 := Tryz.isAgg35
 z53 := Tryz.sizeOf35
 v53 := Tryz.zeroValue35
 t131 := Tryz.underlying120
 a131 := Tryz.isAgg120
 z131 := Tryz.sizeOf120
 v131 := Tryz.zeroValue120
 t182 := Tryz.underlying204
 a182 := Tryz.isAgg204
 z182 := Tryz.sizeOf204
 v182 := Tryz.zeroValue204
 t183 := Tryz.underlying205
 a183 := Tryz.isAgg205
 z183 := Tryz.sizeOf205
 v183 := Tryz.zeroValue205
 t218 := Tryz.underlying226
 a218 := Tryz.isAgg226
 z218 := Tryz.sizeOf226
 v218 := Tryz.zeroValue226
 t222 := Tryz.underlying229
 a222 := Tryz.isAgg229
 z222 := Tryz.sizeOf229
 v222 := Tryz.zeroValue229
 t228 := Tryz.underlying249
 a228 := Tryz.isAgg249
 z228 := Tryz.sizeOf249
 v228 := Tryz.zeroValue249
 t229 := Tryz.underlying250
 a229 := Tryz.isAgg250
 z229 := Tryz.sizeOf250
 v229 := Tryz.zeroValue250 }
def lays194_ren : Go.Shelf.Ren := ⟨fun | 194 => 62 | n => n, fun | 31 => 81 | 9 => 9 | 3 => 3 | 4 => 4 | 0 => 0 | n => n, fun | n => n⟩
theorem lays194 : Go.Proofs.Lays.n194 Tryz.prog lays194_ren := {
 mixed := by kernel_rfl
 f194 := Tryz.func62.trans (congrArg some (by kernel_rfl))
 t0 := Tryz.underlying0
 a0 := Tryz.isAgg0
 z0 := Tryz.sizeOf0
 v0 := Tryz.zeroValue0
 t3 := Tryz.underlying3
 a3 := Tryz.isAgg3
 z3 := Tryz.sizeOf3
 v3 := Tryz.zeroValue3
 t4 := Tryz.underlying4
 a4 := Tryz.isAgg4
 z4 := Tryz.sizeOf4
 v4 := Tryz.zeroValue4
 t9 := Tryz.underlying9
 a9 := Tryz.isAgg9
 z9 := Tryz.sizeOf9
 v9 := Tryz.zeroValue9
 t31 := Tryz.underlying81
 a31 := Tryz.isAgg81
 z31 := Tryz.sizeOf81
 v31 := Tryz.zeroValue81 }
end Go.Proofs.YtgngaldoemopjaaGreatDoor
namespace Go.Proofs.YtgngaldoemopjaaGreatDoor
open Go.RowKit Go.Shelf
open E (T)
attribute [local go_sem] Oper.semAt_some
namespace E
def cnt (ps : List (T × T)) : Nat := ps.countP fun p => decide (p.1.kind = 1)
theorem cnt_le (ps : List (T × T)) : cnt ps ≤ ps.length := List.countP_le_length
theorem cnt_snoc (ps : List (T × T)) (p : T × T) : cnt (ps ++ [p]) = cnt ps + if p.1.kind = 1 then 1 else 0 := by
 simp [cnt, List.countP_append]
end E
theorem TR.kindE {w : World} {ok : Nat → Prop} {t : T} {d : ND} (h : TR w ok t d.v) : d.k = t.kind := by
 obtain ⟨d', e, h1, _⟩ := h.nd
 unfold ND.v at e
 simp only [Value.agg.injEq, Array.mk.injEq, List.cons.injEq, Value.int.injEq] at e
 rw [← h1]
 exact e.1.2
set_option maxRecDepth 100000 in
set_option maxHeartbeats 8000000 in
theorem places_in (t : T) (d : ND) (w : World) (hT : TR w (fun _ => True) t d.v) (hps : (E.pre t t).length ≤ 1000000) :
   CallsIn Fence.wide 9 Tryz.prog 36 #[d.v] w fun e W' => e = .returned (.int .i64 (E.cnt (E.pre t t) : Int)) ∧ Below w.heap.size w W' := by
 have hmk := fun W => nodes_make d W
 unfold ND.v at hmk
 refine callsIn_of_wp_marks Tryz.func36 rfl trivial ?_ rfl
 simp only [ND.v, Tryz.ntmps36, List.size_toArray, List.length_cons, List.length_nil, Nat.reduceAdd, Nat.reduceSub, Array.replicate_succ, Array.replicate_zero, List.push_toArray, List.append_toArray, List.nil_append, List.cons_append]
 gi_wp2_with (refine ⟨trivial, ?_⟩; gi_at_call 58; refine (callsIn_wide.2 (hmk _)).mono ?_; rintro e w2 ⟨rfl, rfl⟩)
 have a1 := al1 w (.cells #[.int .i64 d.k, .int .i64 d.a, .slice d.sp d.sl d.sc, .string d.n, .slice d.kp d.kl d.kc] 25)
 have s1 : (w.alloc (.cells #[.int .i64 d.k, .int .i64 d.a, .slice d.sp d.sl d.sc, .string d.n, .slice d.kp d.kl d.kc] 25)).heap.size = w.heap.size + 1 := by simp
 obtain ⟨X1, hX1⟩ : ∃ X1, w.alloc (.cells #[.int .i64 d.k, .int .i64 d.a, .slice d.sp d.sl d.sc, .string d.n, .slice d.kp d.kl d.kc] 25) = X1 := ⟨_, rfl⟩
 rw [hX1] at a1 s1 ⊢
 have a2 := al1 X1 (.cells #[.int .i64 0] 3)
 have n2 := heap_alloc_new X1 (.cells #[.int .i64 0] 3)
 have s2 : (X1.alloc (.cells #[.int .i64 0] 3)).heap.size = w.heap.size + 2 := by simp [s1]
 obtain ⟨X2, hX2⟩ : ∃ X2, X1.alloc (.cells #[.int .i64 0] 3) = X2 := ⟨_, rfl⟩
 rw [hX2] at a2 n2 s2 ⊢
 rw [s1] at n2
 have a3 := al1 X2 (.cells #[.int .i64 d.k, .int .i64 d.a, .slice d.sp d.sl d.sc, .string d.n, .slice d.kp d.kl d.kc] 25)
 have n3 := heap_alloc_new X2 (.cells #[.int .i64 d.k, .int .i64 d.a, .slice d.sp d.sl d.sc, .string d.n, .slice d.kp d.kl d.kc] 25)
 have s3 : (X2.alloc (.cells #[.int .i64 d.k, .int .i64 d.a, .slice d.sp d.sl d.sc, .string d.n, .slice d.kp d.kl d.kc] 25)).heap.size = w.heap.size + 3 := by simp [s2]
 obtain ⟨X3, hX3⟩ : ∃ X3, X2.alloc (.cells #[.int .i64 d.k, .int .i64 d.a, .slice d.sp d.sl d.sc, .string d.n, .slice d.kp d.kl d.kc] 25) = X3 := ⟨_, rfl⟩
 rw [hX3] at a3 n3 s3 ⊢
 rw [s2] at n3
 have n2' := (a3.block (w.heap.size + 1) (by omega)).trans n2
 have bX := nx a1 (nx a2 a3)
 have z3 : w.heap.size + 3 ≤ X3.heap.size := by omega
 clear hX1 hX2 hX3 a1 a2 a3 n2 s1 s2 s3
 refine enter3 (gf := 89) (lb := #[.pointer (some ⟨w.heap.size + 1 + 1, 0, none⟩)]) rfl (enters_of Tryz.func89 (by kernel_rfl) rfl) ?_
 intro r We hr hrec hdef hszE hbE
 have bE := nx bX hbE
 refine (nodes_in 8 (by omega) w t d hT hps (w.heap.size + 2) (w.heap.size + 2) (X3.heap.size + 1) (by omega) (Nat.le_refl _)
   (fun i A => A.heap[w.heap.size + 1]? = some (.cells #[.int .i64 (E.cnt ((E.pre t t).take i) : Int)] 3) ∧ A.heap[X3.heap.size + 1]? = some (.loop r) ∧ A.heap[X3.heap.size]? = some (.deferred (some [])) ∧ Below w.heap.size w A)
   (fun _ _ => False) We ((hbE.block _ (by omega)).trans n3) bE ?stable (fun _ _ _ h => h.elim) ?round (by omega) ?start).mono ?_
 case stable =>
   rintro i A A' ⟨j1, j2, j3, j4⟩ hb
   exact ⟨(hb.below.block _ (by omega)).trans j1, (hb.below.block _ (by omega)).trans j2, (hb.below.block _ (by omega)).trans j3, j4.trans (hb.below.mono (by omega))⟩
 case start => exact ⟨(hbE.block _ (by omega)).trans n2', hrec.out, hdef.out, bE⟩
 case round =>
   rintro i hi A d1 ⟨j1, j2, j3, j4⟩ hle hBA ht1
   have hkd := ht1.kindE
   have HTK : Hid (E.cnt ((E.pre t t).take (i + 1)) = E.cnt ((E.pre t t).take i) + if (E.pre t t)[i].1.kind = 1 then 1 else 0) := hide (by rw [List.take_succ_eq_append_getElem hi, E.cnt_snoc])
   have hcl := E.cnt_le ((E.pre t t).take i)
   rw [List.length_take] at hcl
   have hc6 : E.cnt ((E.pre t t).take i) ≤ 1000000 := by omega
   have HTK2 := hide HTK.out
   rw [← hkd] at HTK2
   obtain ⟨cc, hcc⟩ : ∃ cc, E.cnt ((E.pre t t).take i) = cc := ⟨_, rfl⟩
   rw [hcc] at hc6 j1 HTK2
   clear hcl HTK hcc hkd
   refine yield3 hr j2 rfl ?_
   unfold ND.v
   gi_wp2
   have hl1 : X3.heap.size + 1 < A.heap.size := (Array.getElem?_eq_some_iff.1 j2).1
   have ha := al1 A (.cells #[.int .i64 d1.k, .int .i64 d1.a, .slice d1.sp d1.sl d1.sc, .string d1.n, .slice d1.kp d1.kl d1.kc] 25)
   have hx3 := heap_alloc_new A (.cells #[.int .i64 d1.k, .int .i64 d1.a, .slice d1.sp d1.sl d1.sc, .string d1.n, .slice d1.kp d1.kl d1.kc] 25)
   refine ⟨(ha.block _ hl1).trans j2, ?_⟩
   intro rb
   have hne : ∀ k, k ≠ X3.heap.size + 1 → ((A.alloc (.cells #[.int .i64 d1.k, .int .i64 d1.a, .slice d1.sp d1.sl d1.sc, .string d1.n, .slice d1.kp d1.kl d1.kc] 25)).putObj (X3.heap.size + 1) (.loop rb)).heap[k]? = (A.alloc (.cells #[.int .i64 d1.k, .int .i64 d1.a, .slice d1.sp d1.sl d1.sc, .string d1.n, .slice d1.kp d1.kl d1.kc] 25)).heap[k]? := fun k hk => World.putObj_heap_other hk
   have k3 : Hid (((A.alloc (.cells #[.int .i64 d1.k, .int .i64 d1.a, .slice d1.sp d1.sl d1.sc, .string d1.n, .slice d1.kp d1.kl d1.kc] 25)).putObj (X3.heap.size + 1) (.loop rb)).heap[X3.heap.size + 1]? = some (.loop rb)) := World.putObj_heap_same (by simp; omega)
   have k1 := (hne (w.heap.size + 1) (by omega)).trans ((ha.block _ (by omega)).trans j1)
   have kx := (hne A.heap.size (by omega)).trans hx3
   have ksame : Hid (∀ k, k < A.heap.size → k ≠ X3.heap.size + 1 → ((A.alloc (.cells #[.int .i64 d1.k, .int .i64 d1.a, .slice d1.sp d1.sl d1.sc, .string d1.n, .slice d1.kp d1.kl d1.kc] 25)).putObj (X3.heap.size + 1) (.loop rb)).heap[k]? = A.heap[k]?) := hide (fun k hk hk' => (hne k hk').trans (ha.block k hk))
   have kz : A.heap.size < ((A.alloc (.cells #[.int .i64 d1.k, .int .i64 d1.a, .slice d1.sp d1.sl d1.sc, .string d1.n, .slice d1.kp d1.kl d1.kc] 25)).putObj (X3.heap.size + 1) (.loop rb)).heap.size := (Array.getElem?_eq_some_iff.1 kx).1
   have kb : Below w.heap.size A ((A.alloc (.cells #[.int .i64 d1.k, .int .i64 d1.a, .slice d1.sp d1.sl d1.sc, .string d1.n, .slice d1.kp d1.kl d1.kc] 25)).putObj (X3.heap.size + 1) (.loop rb)) := (ha.mono (by omega)).trans (below_put _ _ (by omega))
   obtain ⟨A1, hA1⟩ : ∃ A1, (A.alloc (.cells #[.int .i64 d1.k, .int .i64 d1.a, .slice d1.sp d1.sl d1.sc, .string d1.n, .slice d1.kp d1.kl d1.kc] 25)).putObj (X3.heap.size + 1) (.loop rb) = A1 := ⟨_, rfl⟩
   rw [hA1] at k3 k1 kx kb ksame kz ⊢
   clear hA1 hne ha hx3
   have KB := hide kb
   have HJ2 := hide j2
   have HJ3 := hide j3
   have HJ4 := hide j4
   obtain ⟨q0, q1, q2, q3, q4⟩ := cells_five kx
   have cc1 : A1.cell? ⟨w.heap.size + 1, 0, none⟩ = some (.int .i64 (cc : Int)) := by simp [World.cell?, k1]
   have cf1 : A1.frozen? ⟨w.heap.size + 1, 0, none⟩ = false := by simp [World.frozen?, k1]
   have K1 := hide k1
   clear j1 j2 j3 j4 kb k1
   have fin : ∀ (W4 : World) (c : Nat), W4.heap[w.heap.size + 1]? = some (.cells #[.int .i64 (c : Int)] 3) → (∀ k, k ≠ w.heap.size + 1 → W4.heap[k]? = A1.heap[k]?) → W4.heap.size = A1.heap.size → (W4.os = A1.os ∧ W4.tape = A1.tape ∧ W4.output = A1.output) → E.cnt ((E.pre t t).take (i + 1)) = c →
       W4.heap[X3.heap.size + 1]? = some (.loop rb) ∧ Fr w.heap.size (w.heap.size + 2) A (W4.putObj (X3.heap.size + 1) (.loop r)) ∧ (W4.putObj (X3.heap.size + 1) (.loop r)).heap[w.heap.size + 1]? = some (.cells #[.int .i64 (E.cnt ((E.pre t t).take (i + 1)) : Int)] 3) ∧ (W4.putObj (X3.heap.size + 1) (.loop r)).heap[X3.heap.size + 1]? = some (.loop r) ∧ (W4.putObj (X3.heap.size + 1) (.loop r)).heap[X3.heap.size]? = some (.deferred (some [])) ∧ Below w.heap.size w (W4.putObj (X3.heap.size + 1) (.loop r)) := by
     intro W4 c h1 h2 h3 h4 h5
     have m3 := (h2 (X3.heap.size + 1) (by omega)).trans k3.out
     have hnp : ∀ k, k ≠ X3.heap.size + 1 → (W4.putObj (X3.heap.size + 1) (.loop r)).heap[k]? = W4.heap[k]? := fun k hk => World.putObj_heap_other hk
     have hsame : (W4.putObj (X3.heap.size + 1) (.loop r)).heap[X3.heap.size + 1]? = some (.loop r) := World.putObj_heap_same (Array.getElem?_eq_some_iff.1 m3).1
     have hlow : Below w.heap.size A (W4.putObj (X3.heap.size + 1) (.loop r)) := ⟨h4.1.trans KB.out.os, h4.2.1.trans KB.out.tape, h4.2.2.trans KB.out.output, by rw [World.putObj_size]; omega, fun k hk => by rw [hnp k (by omega), h2 k (by omega)]; exact KB.out.block k hk⟩
     refine ⟨m3, ⟨hlow.os, hlow.tape, hlow.output, hlow.size, hlow.block, fun k hk hk' _ => ?_⟩, by rw [hnp _ (by omega), h1, h5], hsame, by rw [hnp _ (by omega), h2 _ (by omega), ksame.out _ (by omega) (by omega)]; exact HJ3.out, HJ4.out.trans hlow⟩
     by_cases he : k = X3.heap.size + 1
     · rw [he, hsame]; exact HJ2.out.symm
     · rw [hnp k he, h2 k (by omega)]
       exact ksame.out k hk' he
   have FIN := hide fin
   clear fin
   by_cases hk1 : d1.k = 1
   · have e1 : (d1.k == 1) = true := by simp [hk1]
     rw [if_pos hk1] at HTK2
     clear hk1
     gi_wp2
     obtain ⟨f1, f2, f3, f4, f5, f6⟩ := FIN.out (A1.setCell ⟨w.heap.size + 1, 0, none⟩ (.int .i64 ((cc : Int) + 1))) (cc + 1) (by rw [show ((cc + 1 : Nat) : Int) = (cc : Int) + 1 by omega]; simp [World.setCell, Array.getElem?_modify, K1.out]) (fun k hk => Below.heap_setCell A1 ⟨w.heap.size + 1, 0, none⟩ _ k hk) (by simp [World.setCell]) ⟨rfl, rfl, rfl⟩ HTK2.out
     exact ⟨f1, rfl, f2, f3, f4, f5, f6⟩
   · have e1 : (d1.k == 1) = false := by simp [hk1]
     rw [if_neg hk1] at HTK2
     clear hk1
     gi_wp2
     obtain ⟨f1, f2, f3, f4, f5, f6⟩ := FIN.out A1 cc K1.out (fun _ _ => rfl) rfl ⟨rfl, rfl, rfl⟩ HTK2.out
     exact ⟨f1, rfl, f2, f3, f4, f5, f6⟩
 rintro e W' ⟨hv, h⟩
 refine ⟨hv, ?_⟩
 rcases h with ⟨j1, j2, j3, j4⟩ | ⟨_, _, h⟩
 · rw [List.take_length] at j1
   refine .inl ⟨j2, fun r' => ?_⟩
   have hnp : ∀ k, k ≠ X3.heap.size + 1 → (W'.putObj (X3.heap.size + 1) (.loop r')).heap[k]? = W'.heap[k]? := fun k hk => World.putObj_heap_other hk
   have k1 := (hnp (w.heap.size + 1) (by omega)).trans j1
   have k3 := (hnp X3.heap.size (by omega)).trans j3
   have k4 := j4.trans (below_put (n := w.heap.size) W' (.loop r') (show w.heap.size ≤ X3.heap.size + 1 by omega))
   generalize W'.putObj (X3.heap.size + 1) (.loop r') = W9 at *
   have c1 : W9.cell? ⟨w.heap.size + 1, 0, none⟩ = some (.int .i64 (E.cnt (E.pre t t) : Int)) := by simp [World.cell?, k1]
   gi_wp2
   refine ⟨by simp, .inl ⟨_, _, rfl, run_takeDeferred k3, ?_⟩⟩
   exact ⟨_, results_tmp rfl _ _ _, rfl, k4.trans (below_put _ _ (by omega))⟩
 · exact h.elim
theorem places_any (t : T) (d : ND) (w : World) (hT : TR w (fun _ => True) t d.v) (hps : (E.pre t t).length ≤ 1000000) :
  Calls Tryz.prog 36 #[d.v] w fun e W' => e = .returned (.int .i64 (E.cnt (E.pre t t) : Int)) ∧ Below w.heap.size w W' := callsIn_wide.1 (places_in t d w hT hps)
end Go.Proofs.YtgngaldoemopjaaGreatDoor
