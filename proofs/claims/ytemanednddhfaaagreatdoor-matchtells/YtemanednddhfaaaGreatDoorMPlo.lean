/- Joined: Shr Bgw Mtl Plo. -/
import Derived.Shelf.Slices.Reverse
import Derived.Test.YtemanednddhfaaaGreatDoorProg
import Derived.KernelRfl
import Derived.Test.YtemanednddhfaaaGreatDoorMEnw
import Derived.Test.YtemanednddhfaaaGreatDoorMAlx
import Derived.Test.YtemanednddhfaaaGreatDoorMMtm
import Derived.Test.YtemanednddhfaaaGreatDoorMPlm
import Derived.Test.YtemanednddhfaaaGreatDoorMCt7
namespace Go.Proofs.YtemanednddhfaaaGreatDoor
open Go.Shelf Go.RowKit
def lays112_ren : Go.Shelf.Ren := ⟨fun | 112 => 69 | n => n, fun | 28 => 60 | 3 => 3 | 4 => 4 | 0 => 0 | n => n, fun | n => n⟩
theorem lays112 : Go.Proofs.Lays.n112 Tryz.prog lays112_ren := {
 mixed := by kernel_rfl
 f112 := Tryz.func69.trans (congrArg some (by kernel_rfl))
 t0 := Tryz.underlying0
 a0 := Tryz.isAgg0
 z0 := Tryz.sizeOf0
 v0 := Tryz.zeroValue0
 t3 := Tryz.underlying3
 a3 := Tryz.isAgg3
 z3 := Tryz.sizeOf3
 v3 := Tryz.zeroValue3
 t4 := Tryz.underlying4
 a4 := Tryz.isAgg4
 z4 := Tryz.sizeOf4
 v4 := Tryz.zeroValue4
 t28 := Tryz.underlying60
 a28 := Tryz.isAgg60
 z28 := Tryz.sizeOf60
 v28 := Tryz.zeroValue60 }
end Go.Proofs.YtemanednddhfaaaGreatDoor
namespace Go.Proofs.YtemanednddhfaaaGreatDoor
open Go.RowKit Go.Shelf
open E (Ps Rx T rxOf Vp)
attribute [local go_sem] Oper.semAt_some
def BegP (t : T) (xs : List Int) (f : Int) (zs : List Int) : Prop :=
 ((0 ≤ f ∧ f ≤ (xs.length : Int) ∧ E.PlainP t) ∧ zs = (pls (xs.take f.toNat).reverse (rxOf t).rev (fun m => f - (m : Int)) (f.toNat + 1)).reverse) ∨ (¬ (0 ≤ f ∧ f ≤ (xs.length : Int) ∧ E.PlainP t) ∧ zs = [])
theorem grownBy_ints {w : World} {g n : Nat} (d : Array Int) : w.grownBy («Sort».putRow (Value.int .i64) («Sort».ahead w n) g 0 d) (some g) := by
 unfold «Sort».putRow «Sort».mapBlock «Sort».ahead
 refine ⟨rfl, rfl, rfl, by simp, fun k hk hne => ?_⟩
 have hk' : g ≠ k := fun e => hne (by rw [e])
 simp [Array.getElem?_modify, hk']
theorem rev_row (w : World) (B : Nat) (v : Value) (ss : List Int) (ho : OwnI w B v ss) (hl : ss.length ≤ 10000000) : Calls Tryz.prog 69 #[v] w fun e w' => e = .returned (.tuple #[]) ∧ OwnI w' B v ss.reverse ∧ w.grownBy w' v.ownBlock := by
 by_cases hv : v = .slice none 0 0
 · subst hv
   have hs : ss = [] := by
     obtain ⟨_, ⟨_, h⟩ | ⟨g, cap, cur, e, _⟩⟩ := ho
     · exact List.eq_nil_of_length_eq_zero h
     · cases e
   subst hs
   refine (Any.slices_Reverse_int_empty lays112 none 0 w).mono ?_
   rintro e w' ⟨rfl, rfl⟩
   exact ⟨rfl, by simpa using ho, ⟨rfl, rfl, rfl, Nat.le_refl _, fun _ _ _ => rfl⟩⟩
 · obtain ⟨g, cap, rfl, hbg, hgl, hncap, hcm, _, hH⟩ := Lib.holds_of_ownsRow ho hv
   refine (Any.slices_Reverse_int lays112 g 0 cap ss w hH (by omega)).mono ?_
   rintro e w' ⟨rfl, q, rfl⟩
   refine ⟨rfl, ?_, ?_⟩
   · have hc := Lib.ownsRow_putRow (q := q) (k := ss.length) (ys := ss.reverse) ho (by simp) (Nat.le_refl _)
     unfold OwnI
     rw [List.length_reverse]
     have ht : ss.reverse.take ss.length = ss.reverse := List.take_of_length_le (by simp)
     rw [ht] at hc
     exact hc
   · exact grownBy_ints _
set_option maxRecDepth 100000 in
set_option maxHeartbeats 4000000 in
theorem begsM_in (t : T) (d : ND) (w : World) (htab : Tabs w) (hT : TR w (fun _ => True) t d.v) (hps : (E.pre t t).length ≤ 1000000) (hnb : ∀ p ∈ E.pre t t, E.NodeB p.1) (ao : Option Addr) (cap : Nat) (xs : List Int) (hx : RdC32 w ao xs) (hlen : xs.length ≤ 1000000) (hcap : xs.length ≤ cap) (f : Int) :
   CallsIn Fence.wide 9 Tryz.prog 36 #[d.v, .slice ao xs.length cap, .int .i64 f] w fun e W' => (∃ v zs, e = .returned v ∧ OwnI W' w.heap.size v zs ∧ BegP t xs f zs) ∧ Below w.heap.size w W' := by
 have hpl := fun W hb => plain_any t d W (htab.later hb) (TR.later (fun k hk => Below.block hb k hk) _ hT) hps hnb
 have hwi := within_any ao xs.length cap f
 unfold ND.v at hpl ⊢
 refine callsIn_of_wp_marks Tryz.func36 rfl trivial ?_ rfl
 simp only [Tryz.ntmps36, List.size_toArray, List.length_cons, List.length_nil, Nat.reduceAdd, Nat.reduceSub, Array.replicate_succ, Array.replicate_zero, List.push_toArray, List.append_toArray, List.nil_append, List.cons_append]
 have a1 := al1 w (.cells #[.int .i64 d.k, .int .i64 d.a, .slice d.sp d.sl d.sc, .string d.n, .slice d.kp d.kl d.kc] 26)
 have n1 := heap_alloc_new w (.cells #[.int .i64 d.k, .int .i64 d.a, .slice d.sp d.sl d.sc, .string d.n, .slice d.kp d.kl d.kc] 26)
 have a2 := al1 (w.alloc (.cells #[.int .i64 d.k, .int .i64 d.a, .slice d.sp d.sl d.sc, .string d.n, .slice d.kp d.kl d.kc] 26)) (.cells #[.int .i64 f] 3)
 have n2 := heap_alloc_new (w.alloc (.cells #[.int .i64 d.k, .int .i64 d.a, .slice d.sp d.sl d.sc, .string d.n, .slice d.kp d.kl d.kc] 26)) (.cells #[.int .i64 f] 3)
 have s2 : ((w.alloc (.cells #[.int .i64 d.k, .int .i64 d.a, .slice d.sp d.sl d.sc, .string d.n, .slice d.kp d.kl d.kc] 26)).alloc (.cells #[.int .i64 f] 3)).heap.size = w.heap.size + 2 := by simp
 rw [World.size_alloc] at n2
 have m1 := (a2.block w.heap.size (by simp)).trans n1
 have b3 := nx a1 a2
 have hp := hpl _ b3
 have hw := hwi ((w.alloc (.cells #[.int .i64 d.k, .int .i64 d.a, .slice d.sp d.sl d.sc, .string d.n, .slice d.kp d.kl d.kc] 26)).alloc (.cells #[.int .i64 f] 3))
 clear hpl n1 a1 a2 hwi
 gi_wp2_with fail
 refine ⟨trivial, (callsIn_wide.2 hw).mono ?_⟩
 rintro e W0 ⟨⟨b, rfl, hb⟩, rfl⟩
 have HB := hide hb
 clear hw hb
 cases b with
 | false =>
   have hI : Hid (¬ (0 ≤ f ∧ f ≤ (xs.length : Int))) := hide (fun h => by have := HB.out.2 h; cases this)
   clear HB
   gi_wp2
   refine ⟨trivial, ?_⟩
   gi_wp2
   exact ⟨_, results_tmp rfl _ _ _, ⟨_, [], rfl, ownI_nil _ _, .inr ⟨fun h => hI.out ⟨h.1, h.2.1⟩, rfl⟩⟩, b3⟩
 | true =>
   have hI := hide (HB.out.1 rfl)
   clear HB
   gi_wp2_with fail
   refine ⟨trivial, (callsIn_wide.2 hp).mono ?_⟩
   rintro e W1 ⟨⟨b, rfl, hb⟩, hb1⟩
   have hs1 := hb1.size
   rw [s2] at hs1
   have x1 := (hb1.block w.heap.size (by omega)).trans m1
   have x2 := (hb1.block (w.heap.size + 1) (by omega)).trans n2
   have bW := nx b3 hb1
   have HB := hide hb
   clear hp hb hb1 m1 n2 b3 s2
   cases b with
   | false =>
     have hP : Hid (¬ E.PlainP t) := hide (fun h => by have := HB.out.2 h; cases this)
     clear HB x1 x2
     gi_wp2
     exact ⟨_, results_tmp rfl _ _ _, ⟨_, [], rfl, ownI_nil _ _, .inr ⟨fun h => hP.out h.2.2, rfl⟩⟩, bW⟩
   | true =>
     have hP := hide (HB.out.1 rfl)
     clear HB
     obtain ⟨g, hg⟩ : ∃ g : Nat, f = (g : Int) := ⟨f.toNat, by have := hI.out.1; omega⟩
     have hgl : g ≤ xs.length := by have := hI.out.2; omega
     subst hg
     clear hI
     obtain ⟨ac, hac, hxc⟩ := cut_to8 hx g hgl hcap
     have hll : (xs.take g).length ≤ 1000000 := by rw [List.length_take]; omega
     gi_wp2
     have a3 := al1 W1 (.cells #[.slice none 0 0] 60)
     have n3 := heap_alloc_new W1 (.cells #[.slice none 0 0] 60)
     have s3 : (W1.alloc (.cells #[.slice none 0 0] 60)).heap.size = W1.heap.size + 1 := by simp
     have z1 := (a3.block w.heap.size (by omega)).trans x1
     have z2 := (a3.block (w.heap.size + 1) (by omega)).trans x2
     have bZ := bW.trans (a3.mono (show w.heap.size ≤ W1.heap.size by omega))
     obtain ⟨Z, hZ⟩ : ∃ Z, W1.alloc (.cells #[.slice none 0 0] 60) = Z := ⟨_, rfl⟩
     rw [hZ] at a3 n3 s3 z1 z2 bZ ⊢
     clear hZ x1 x2 a3
     have kx : ∀ w', Below (W1.heap.size + 1) Z.drew w' → w'.heap[w.heap.size]? = some (.cells #[.int .i64 d.k, .int .i64 d.a, .slice d.sp d.sl d.sc, .string d.n, .slice d.kp d.kl d.kc] 26) ∧ w'.heap[w.heap.size + 1]? = some (.cells #[.int .i64 (g : Int)] 3) := fun w' hb => ⟨(hb.block _ (by omega)).trans z1, (hb.block _ (by omega)).trans z2⟩
     refine noPan (wpIn_wide.2 ?_)
     refine Reg.start (B := W1.heap.size + 1) (by kernel_rfl) ?_
     refine Reg.take (fun _ _ _ _ _ h => h) 0 _ 18 (.agg #[.int .i64 d.k, .int .i64 d.a, .slice d.sp d.sl d.sc, .string d.n, .slice d.kp d.kl d.kc]) rfl (by kernel_rfl) (by kernel_rfl) (by kernel_rfl) rfl (by kernel_rfl) (by kernel_rfl) (fun w' hb => Reg.ldN rfl rfl (kx w' hb).1) ?_
     refine Reg.take (fun _ _ _ _ _ h => h) 1 _ 19 (.slice ao xs.length cap) rfl (by kernel_rfl) (by kernel_rfl) (by kernel_rfl) rfl (by kernel_rfl) (by kernel_rfl) (fun w' hb => Rcl.mvE rfl rfl) ?_
     refine Reg.take (fun _ _ _ _ _ h => h) 2 _ 20 (.int .i64 (g : Int)) rfl (by kernel_rfl) (by kernel_rfl) (by kernel_rfl) rfl (by kernel_rfl) (by kernel_rfl) (fun w' hb => Reg.ldS rfl rfl (by simp [World.cell?, (kx w' hb).2]) (Tryz.isAgg3 _)) ?_
     refine Reg.take (fun _ _ _ _ _ h => h) 3 _ 21 (.slice ac (xs.take g).length (cap - 0)) rfl (by kernel_rfl) (by kernel_rfl) (by kernel_rfl) rfl (by kernel_rfl) (by kernel_rfl) (fun w' hb => Rcl.slt rfl rfl rfl (hac w')) ?_
     refine Reg.call 4 _ 22 68 _ _ #[.slice ac (xs.take g).length (cap - 0)] rfl (by kernel_rfl) rfl (by kernel_rfl) (by kernel_rfl) rfl (by kernel_rfl) (by kernel_rfl) (back_make ac (xs.take g).length (cap - 0) Z.drew) ?_
     rintro e w4 ⟨rfl, rfl⟩
     have hz : Z.drew.heap.size = W1.heap.size + 1 := s3
     rw [hz]
     have y0 := heap_alloc_new Z.drew (.cells #[.slice ac (xs.take g).length (cap - 0)] 53)
     have yb := al1 Z.drew (.cells #[.slice ac (xs.take g).length (cap - 0)] 53)
     have ys : (Z.drew.alloc (.cells #[.slice ac (xs.take g).length (cap - 0)] 53)).heap.size = W1.heap.size + 2 := by simp [s3]
     rw [show Z.drew.heap.size = W1.heap.size + 1 from s3] at y0 yb
     refine ⟨_, W1.heap.size + 1, rfl, Nat.le_refl _, yb, ?_⟩
     obtain ⟨Y, hY0⟩ : ∃ Y, Z.drew.alloc (.cells #[.slice ac (xs.take g).length (cap - 0)] 53) = Y := ⟨_, rfl⟩
     rw [hY0] at y0 yb ys ⊢
     have hlm := lens_make 67 99 (W1.heap.size + 1) d Y
     unfold ND.v at hlm
     refine Reg.call 5 _ 23 60 _ _ #[.agg #[.int .i64 d.k, .int .i64 d.a, .slice d.sp d.sl d.sc, .string d.n, .slice d.kp d.kl d.kc], .func (.func 67) #[] #[], .func (.func 99) #[] #[.pointer (some ⟨W1.heap.size + 1, 0, none⟩)]] rfl (by kernel_rfl) rfl (by kernel_rfl) (by kernel_rfl) rfl (by kernel_rfl) (by kernel_rfl) hlm ?_
     rintro e w5 ⟨rfl, rfl⟩
     clear hlm hY0 kx
     have v1 := al1 Y (.cells #[.int .i64 d.k, .int .i64 d.a, .slice d.sp d.sl d.sc, .string d.n, .slice d.kp d.kl d.kc] 26)
     have u1 := heap_alloc_new Y (.cells #[.int .i64 d.k, .int .i64 d.a, .slice d.sp d.sl d.sc, .string d.n, .slice d.kp d.kl d.kc] 26)
     have v2 := al1 (Y.alloc (.cells #[.int .i64 d.k, .int .i64 d.a, .slice d.sp d.sl d.sc, .string d.n, .slice d.kp d.kl d.kc] 26)) (.cells #[.func (.func 67) #[] #[]] 105)
     have u2 := heap_alloc_new (Y.alloc (.cells #[.int .i64 d.k, .int .i64 d.a, .slice d.sp d.sl d.sc, .string d.n, .slice d.kp d.kl d.kc] 26)) (.cells #[.func (.func 67) #[] #[]] 105)
     have v3 := al1 ((Y.alloc (.cells #[.int .i64 d.k, .int .i64 d.a, .slice d.sp d.sl d.sc, .string d.n, .slice d.kp d.kl d.kc] 26)).alloc (.cells #[.func (.func 67) #[] #[]] 105)) (.cells #[.func (.func 99) #[] #[.pointer (some ⟨W1.heap.size + 1, 0, none⟩)]] 107)
     have u3 := heap_alloc_new ((Y.alloc (.cells #[.int .i64 d.k, .int .i64 d.a, .slice d.sp d.sl d.sc, .string d.n, .slice d.kp d.kl d.kc] 26)).alloc (.cells #[.func (.func 67) #[] #[]] 105)) (.cells #[.func (.func 99) #[] #[.pointer (some ⟨W1.heap.size + 1, 0, none⟩)]] 107)
     rw [World.size_alloc] at u2
     rw [World.size_alloc, World.size_alloc] at u3
     have e1 := ((nx v2 v3).block Y.heap.size (by simp)).trans u1
     have e2 := (v3.block (Y.heap.size + 1) (by simp)).trans u2
     have vb := nx v1 (nx v2 v3)
     have e0 := (vb.block (W1.heap.size + 1) (by omega)).trans y0
     have sX : (((Y.alloc (.cells #[.int .i64 d.k, .int .i64 d.a, .slice d.sp d.sl d.sc, .string d.n, .slice d.kp d.kl d.kc] 26)).alloc (.cells #[.func (.func 67) #[] #[]] 105)).alloc (.cells #[.func (.func 99) #[] #[.pointer (some ⟨W1.heap.size + 1, 0, none⟩)]] 107)).heap.size = Y.heap.size + 3 := by simp
     have vb1 := yb.trans (vb.mono (show W1.heap.size + 1 ≤ Y.heap.size by omega))
     refine ⟨_, W1.heap.size + 1, rfl, Nat.le_refl _, vb.mono (by omega), ?_⟩
     obtain ⟨X, hX⟩ : ∃ X, ((Y.alloc (.cells #[.int .i64 d.k, .int .i64 d.a, .slice d.sp d.sl d.sc, .string d.n, .slice d.kp d.kl d.kc] 26)).alloc (.cells #[.func (.func 67) #[] #[]] 105)).alloc (.cells #[.func (.func 99) #[] #[.pointer (some ⟨W1.heap.size + 1, 0, none⟩)]] 107) = X := ⟨_, rfl⟩
     rw [hX] at e1 e2 u3 e0 sX vb vb1 ⊢
     refine Reg.done (by kernel_rfl) ?_
     simp only [NoPan, Reg.ov, Act.put, List.setIfInBounds_toArray, List.set_cons_succ, List.set_cons_zero]
     rw [show Y.heap.size + 1 + 1 = Y.heap.size + 2 from rfl] at u3
     rw [ys] at e1 e2 u3 sX ⊢
     have xb1 := (vb1.block (w.heap.size + 1) (show w.heap.size + 1 < W1.heap.size + 1 by omega)).trans z2
     have xb3 := (vb1.block W1.heap.size (show W1.heap.size < W1.heap.size + 1 by omega)).trans n3
     have bX : Below w.heap.size w X := bZ.drew.trans (vb1.mono (show w.heap.size ≤ W1.heap.size + 1 by omega))
     have sX2 : W1.heap.size + 5 ≤ X.heap.size := by omega
     clear hX v1 v2 v3 u1 u2 vb vb1 yb y0 sX ys n3 z1 z2
     gi_wp2
     refine enter3 (gf := 92) (lb := #[.pointer (some ⟨W1.heap.size + 2 + 1, 0, none⟩), .pointer (some ⟨W1.heap.size + 2, 0, none⟩), .pointer (some ⟨W1.heap.size + 2 + 2, 0, none⟩)]) rfl (enters_of Tryz.func92 (by kernel_rfl) rfl) ?_
     intro r We hr hrec hdef hszE hbE
     have bE := bX.trans (hbE.mono (by omega))
     have k1 := (hbE.block (w.heap.size + 1) (by omega)).trans xb1
     have k3 := (hbE.block W1.heap.size (by omega)).trans xb3
     have hsl : Hid ((xs.take g).length = g) := hide (by rw [List.length_take]; omega)
     obtain ⟨zs, hzs⟩ : ∃ zs, xs.take g = zs := ⟨_, rfl⟩
     rw [hzs] at hll hsl hxc e0
     have ib0 : IB (W1.heap.size + 1) W1.heap.size (pls zs.reverse (rxOf t).rev (fun m => (g : Int) - (m : Int)) 0) We := ⟨_, k3, by simpa [pls] using ownI_nil We (W1.heap.size + 1)⟩
     refine (lens69_in 8 (by omega) w (rxOf t).rev d zs.reverse (W1.heap.size + 1) W1.heap.size (W1.heap.size + 2 + 1) (W1.heap.size + 2) (W1.heap.size + 2 + 2) (W1.heap.size + 1) (X.heap.size + 1) _ (bwd_mk t hP.out.vp d w hT) (pts_back hxc hll (W1.heap.size + 1)) (by rw [List.length_reverse]; exact hll) (by omega) (by omega) (by omega) (by omega)
       (fun m A => IB (W1.heap.size + 1) W1.heap.size (pls zs.reverse (rxOf t).rev (fun m => (g : Int) - (m : Int)) m) A ∧ A.heap[w.heap.size + 1]? = some (.cells #[.int .i64 (g : Int)] 3) ∧ A.heap[X.heap.size + 1]? = some (.loop r) ∧ A.heap[X.heap.size]? = some (.deferred (some [])) ∧ Below w.heap.size w A)
       (fun m A => False)
       We ((hbE.block _ (by omega)).trans e2) ((hbE.block _ (by omega)).trans e1) ((hbE.block _ (by omega)).trans u3) ((hbE.block _ (by omega)).trans e0) bE (by omega) (by omega) ?stable (fun _ _ _ h _ => h) ?skip ?lt ?own0 ?round ⟨ib0, k1, hrec.out, hdef.out, bE⟩).mono ?_
     case stable =>
       rintro m A A' ⟨j1, j2, j3, j4, j5⟩ hb
       exact ⟨j1.keep hb (by omega), (hb.below.block _ (by omega)).trans j2, (hb.below.block _ (by omega)).trans j3, (hb.below.block _ (by omega)).trans j4, j5.trans (hb.below.mono (by omega))⟩
     case skip =>
       rintro m A hm ⟨j1, j2, j3, j4, j5⟩
       refine ⟨?_, j2, j3, j4, j5⟩
       rw [pls_succ, hm]
       simpa using j1
     case lt =>
       rintro m A ⟨j1, _⟩ k ho
       exact (j1.ow ho).1
     case own0 =>
       rintro k _ ⟨v, t', f', h1, h2⟩
       rw [k3] at h1
       cases h1
       cases h2
     case round =>
       rintro m hm hhit A ⟨j1, j2, j3, j4, j5⟩ hle hBA
       have HP : Hid (pls zs.reverse (rxOf t).rev (fun m => (g : Int) - (m : Int)) (m + 1) = pls zs.reverse (rxOf t).rev (fun m => (g : Int) - (m : Int)) m ++ [(g : Int) - (m : Int)]) := hide (by rw [pls_succ, hhit]; rfl)
       have hlp := pls_le zs.reverse (rxOf t).rev (fun m => (g : Int) - (m : Int)) m
       obtain ⟨ss, hss⟩ : ∃ ss, pls zs.reverse (rxOf t).rev (fun m => (g : Int) - (m : Int)) m = ss := ⟨_, rfl⟩
       rw [hss] at j1 HP hlp
       clear hss hhit
       rw [List.length_reverse, hsl.out] at hm
       obtain ⟨i0, hi0, hz0, hz1, hz2⟩ := info_parts info3N
       refine yield3 hr j3 rfl ?_
       gi_wp2
       have hl1 : X.heap.size + 1 < A.heap.size := (Array.getElem?_eq_some_iff.1 j3).1
       intro rb
       have hne : ∀ k, k ≠ X.heap.size + 1 → (A.putObj (X.heap.size + 1) (.loop rb)).heap[k]? = A.heap[k]? := fun k hk => World.putObj_heap_other hk
       have nl := j1.notRow j3 (fun _ _ _ h => by cases h)
       have kib := j1.put (show W1.heap.size ≠ X.heap.size + 1 by omega) nl (.loop rb)
       have k2 := (hne (w.heap.size + 1) (by omega)).trans j2
       have kr := hide (World.putObj_heap_same (w := A) (o := .loop rb) hl1)
       have ksz : (A.putObj (X.heap.size + 1) (.loop rb)).heap.size = A.heap.size := World.putObj_size
       have HNE := hide hne
       have kb : Hid (Below w.heap.size A (A.putObj (X.heap.size + 1) (.loop rb))) := hide (below_put _ _ (by omega))
       have kow : Hid (∀ k, Ow W1.heap.size (A.putObj (X.heap.size + 1) (.loop rb)) k ↔ Ow W1.heap.size A k) := hide (fun k => ⟨fun h => h.of (hne _ (by omega)), fun h => h.of (hne _ (by omega)).symm⟩)
       obtain ⟨A1, hA1⟩ : ∃ A1, A.putObj (X.heap.size + 1) (.loop rb) = A1 := ⟨_, rfl⟩
       rw [hA1] at kib k2 kr ksz HNE kb kow ⊢
       obtain ⟨v, k1, ko⟩ := kib
       have c1 : A1.cell? ⟨W1.heap.size, 0, none⟩ = some v := by simp [World.cell?, k1]
       have c2 : A1.cell? ⟨w.heap.size + 1, 0, none⟩ = some (.int .i64 (g : Int)) := by simp [World.cell?, k2]
       have HJ1 := hide j1
       have HJ2 := hide j2
       have HJ3 := hide j3
       have HJ4 := hide j4
       have HJ5 := hide j5
       have K1 := hide k1
       have K2 := hide k2
       have NL := hide nl
       have HS := hide ksz
       have kle : W1.heap.size + 1 ≤ A1.heap.size := by omega
       have kl2 : w.heap.size + 2 ≤ A1.heap.size := by omega
       clear hA1 hne j1 j2 j3 j4 j5 k1 k2 nl ksz
       gi_wp2_with (gi_at_builtin; refine wpListIn_append_own_at _ rfl _ _ 60 rfl (W1.heap.size + 1) 3 i0 (.int .i64 0) 1 8 Tryz.underlying60 hi0 hz0 hz1 hz2 rfl (by decide) v ss.length (ss.map (Value.int .i64)) rfl (ko.alloc _) ⟨A1.heap.size, 0, none⟩ 1 1 [.int .i64 ((g : Int) - (m : Int))] rfl rfl (cell_one_new _ _ _) (by simp [Value.oneCell']) (by unfold maxLen; omega) (by omega) (by simp; omega) ?_; intro v' w1 hown' hgrow _ hat; obtain ⟨g', cap', rfl⟩ := ownsRow_succ hown'; obtain ⟨hp1, hib, hkp, how, hsz, hos, htp, hou⟩ := ib_app (by omega) kle K1.out ko hown' hgrow hat; have hc1 : w1.cell? ⟨W1.heap.size, 0, none⟩ = some v := (by simp [World.cell?, hp1]); have hf1 : w1.frozen? ⟨W1.heap.size, 0, none⟩ = false := (by simp [World.frozen?, hp1]); have HIB := hide hib; have HKP := hide hkp; have HOW := hide how; have HSZ := hide hsz; have HOS := hide (And.intro hos (And.intro htp hou)); clear hib hkp how hsz hos htp hou hown' hgrow hat hp1 c1 c2)
       have fin : ∀ W4 : World, IB (W1.heap.size + 1) W1.heap.size (ss ++ [(g : Int) - (m : Int)]) W4 → (∀ k, k ≠ W1.heap.size → k < A1.heap.size → ¬ Ow W1.heap.size A1 k → W4.heap[k]? = A1.heap[k]?) → (∀ k, k < A1.heap.size → Ow W1.heap.size W4 k → Ow W1.heap.size A1 k) → A1.heap.size ≤ W4.heap.size → (W4.os = A1.os ∧ W4.tape = A1.tape ∧ W4.output = A1.output) →
           W4.heap[X.heap.size + 1]? = some (.loop rb) ∧ FrO W1.heap.size w.heap.size (W1.heap.size + 1) A (W4.putObj (X.heap.size + 1) (.loop r)) ∧ IB (W1.heap.size + 1) W1.heap.size (pls zs.reverse (rxOf t).rev (fun m => (g : Int) - (m : Int)) (m + 1)) (W4.putObj (X.heap.size + 1) (.loop r)) ∧ (W4.putObj (X.heap.size + 1) (.loop r)).heap[w.heap.size + 1]? = some (.cells #[.int .i64 (g : Int)] 3) ∧ (W4.putObj (X.heap.size + 1) (.loop r)).heap[X.heap.size + 1]? = some (.loop r) ∧ (W4.putObj (X.heap.size + 1) (.loop r)).heap[X.heap.size]? = some (.deferred (some [])) ∧ Below w.heap.size w (W4.putObj (X.heap.size + 1) (.loop r)) := by
         intro W4 h1 h2 h3 h4 h5
         have hS := HS.out
         have nlA : ¬ Ow W1.heap.size A1 (X.heap.size + 1) := fun h => NL.out ((kow.out _).1 h)
         have m3 := (h2 (X.heap.size + 1) (by omega) (by omega) nlA).trans kr.out
         have hnp : ∀ k, k ≠ X.heap.size + 1 → (W4.putObj (X.heap.size + 1) (.loop r)).heap[k]? = W4.heap[k]? := fun k hk => World.putObj_heap_other hk
         have hsame : (W4.putObj (X.heap.size + 1) (.loop r)).heap[X.heap.size + 1]? = some (.loop r) := World.putObj_heap_same (Array.getElem?_eq_some_iff.1 m3).1
         have hall : ∀ k, k ≠ W1.heap.size → k < A.heap.size → ¬ Ow W1.heap.size A k → (W4.putObj (X.heap.size + 1) (.loop r)).heap[k]? = A.heap[k]? := fun k hk hk' ho => by
           by_cases he : k = X.heap.size + 1
           · rw [he, hsame]; exact HJ3.out.symm
           · rw [hnp k he, h2 k hk (by omega) (fun h => ho ((kow.out _).1 h))]
             exact HNE.out k he
         have hlow : ∀ k, k < W1.heap.size → ¬ Ow W1.heap.size A k := fun k hk ho => by
           have := (HJ1.out.ow ho).2
           omega
         have b9 : Below w.heap.size A (W4.putObj (X.heap.size + 1) (.loop r)) := ⟨h5.1.trans kb.out.os, h5.2.1.trans kb.out.tape, h5.2.2.trans kb.out.output, by rw [World.putObj_size]; omega, fun k hk => hall k (by omega) (by omega) (hlow k (by omega))⟩
         refine ⟨m3, ⟨b9.os, b9.tape, b9.output, b9.size, b9.block, fun k hk hk' ho => hall k (by omega) hk' ho, fun k hk ho => (kow.out _).1 (h3 k (by omega) (ho.of (hnp _ (by omega))))⟩, ?_, (hall _ (by omega) (by omega) (hlow _ (by omega))).trans HJ2.out, hsame, (hall _ (by omega) (by omega) (HJ1.out.notRow HJ4.out (fun _ _ _ h => by cases h))).trans HJ4.out, HJ5.out.trans b9⟩
         rw [HP.out]
         exact h1.put (by omega) (fun h => nlA (h3 _ (by omega) h)) _
       obtain ⟨f1, f2, f3, f4, f5, f6, f7⟩ := fin _ HIB.out HKP.out HOW.out HSZ.out HOS.out
       exact ⟨f1, rfl, f2, f3, f4, f5, f6, f7⟩
     rintro e W' ⟨hv, h⟩
     refine ⟨hv, ?_⟩
     rcases h with ⟨j1, j2, j3, j4, j5⟩ | ⟨_, _, h⟩
     · refine .inl ⟨j3, fun r' => ?_⟩
       have hnp : ∀ k, k ≠ X.heap.size + 1 → (W'.putObj (X.heap.size + 1) (.loop r')).heap[k]? = W'.heap[k]? := fun k hk => World.putObj_heap_other hk
       have q1 := j1.put (show W1.heap.size ≠ X.heap.size + 1 by omega) (j1.notRow j3 (fun _ _ _ h => by cases h)) (.loop r')
       have q4 := (hnp X.heap.size (by omega)).trans j4
       have q5 := j5.trans (below_put (n := w.heap.size) W' (.loop r') (show w.heap.size ≤ X.heap.size + 1 by omega))
       have q6 : W1.heap.size + 1 ≤ (W'.putObj (X.heap.size + 1) (.loop r')).heap.size := by
         have := (Array.getElem?_eq_some_iff.1 j3).1
         rw [World.putObj_size]
         omega
       clear j1 j2 j3 j4 j5 hnp
       generalize W'.putObj (X.heap.size + 1) (.loop r') = W9 at *
       obtain ⟨v, q1, q2⟩ := q1
       have c1 : W9.cell? ⟨W1.heap.size, 0, none⟩ = some v := by simp [World.cell?, q1]
       have HR : Hid (BegP t xs (g : Int) (pls zs.reverse (rxOf t).rev (fun m => (g : Int) - (m : Int)) (zs.reverse.length + 1)).reverse) := hide (.inl ⟨⟨by omega, by omega, hP.out⟩, by rw [Int.toNat_natCast, hzs, List.length_reverse, hsl.out]⟩)
       have hpl2 := pls_le zs.reverse (rxOf t).rev (fun m => (g : Int) - (m : Int)) (zs.reverse.length + 1)
       rw [List.length_reverse] at hpl2 HR q2
       obtain ⟨ss, hss⟩ : ∃ ss, pls zs.reverse (rxOf t).rev (fun m => (g : Int) - (m : Int)) (zs.length + 1) = ss := ⟨_, rfl⟩
       rw [hss] at hpl2 HR q2
       clear hss
       have hrv := rev_row W9 (W1.heap.size + 1) v ss q2 (by omega)
       have Q1 := hide q1
       have Q2 := hide q2
       have Q4 := hide q4
       clear q1 q2 q4
       gi_wp2_with fail
       refine ⟨trivial, (callsIn_wide.2 hrv).mono ?_⟩
       rintro e Wa ⟨rfl, o1, hg⟩
       have hn1 : v.ownBlock ≠ some W1.heap.size := fun e => by
         have := (Q2.out.lt e).2
         omega
       have p1 := (hg.block W1.heap.size (by omega) (fun e => hn1 e.symm)).trans Q1.out
       have p4 := (hg.block X.heap.size (Array.getElem?_eq_some_iff.1 Q4.out).1 (fun e => Q2.out.notRow Q4.out (fun _ _ _ h => by cases h) e.symm)).trans Q4.out
       have p5 : Below w.heap.size w Wa := q5.trans ⟨hg.os, hg.tape, hg.output, hg.size, fun k hk => hg.block k (by omega) (fun e => by have := (Q2.out.lt e.symm).2; omega)⟩
       have c2 : Wa.cell? ⟨W1.heap.size, 0, none⟩ = some v := by simp [World.cell?, p1]
       have HO := hide o1
       clear hrv c1 hg p1 o1
       gi_wp2
       refine ⟨by simp, .inl ⟨_, _, rfl, run_takeDeferred p4, ?_⟩⟩
       have HK : OwnI (Wa.putObj X.heap.size (.deferred none)) w.heap.size v ss.reverse := (HO.out.same fun k o hk ho => (World.putObj_heap_other (fun e => HO.out.notRow p4 (fun _ _ _ h => by cases h) (by rw [← e]; exact hk))).trans ho).mono (by omega)
       refine ⟨_, results_tmp rfl _ _ _, ?_, p5.trans (below_put _ _ (by omega))⟩
       exact ⟨v, _, rfl, HK, HR.out⟩
     · exact h.elim
theorem begsM_any (t : T) (d : ND) (w : World) (htab : Tabs w) (hT : TR w (fun _ => True) t d.v) (hps : (E.pre t t).length ≤ 1000000) (hnb : ∀ p ∈ E.pre t t, E.NodeB p.1) (ao : Option Addr) (cap : Nat) (xs : List Int) (hx : RdC32 w ao xs) (hlen : xs.length ≤ 1000000) (hcap : xs.length ≤ cap) (f : Int) :
   Calls Tryz.prog 36 #[d.v, .slice ao xs.length cap, .int .i64 f] w fun e W' => (∃ v zs, e = .returned v ∧ OwnI W' w.heap.size v zs ∧ BegP t xs f zs) ∧ Below w.heap.size w W' := callsIn_wide.1 (begsM_in t d w htab hT hps hnb ao cap xs hx hlen hcap f)
end Go.Proofs.YtemanednddhfaaaGreatDoor
namespace Go.Proofs.YtemanednddhfaaaGreatDoor
open E (Star Rx Ps T rxOf Vp)
namespace E
theorem star_rev {L M : List Int → Prop} (h : ∀ u, M u → L u.reverse) {u : List Int} (hu : Star M u) : Star L u.reverse := by
 induction hu with
 | nil => exact .nil
 | app hx _ ih => rw [List.reverse_append]; exact ih.snoc (h _ hx)
theorem star_rev_iff {L M : List Int → Prop} (h : ∀ u, M u ↔ L u.reverse) (u : List Int) : Star M u ↔ Star L u.reverse :=
 ⟨star_rev fun v hv => (h v).1 hv, fun hu => by
   have := star_rev (L := M) (M := L) (fun v hv => (h _).2 (by rwa [List.reverse_reverse])) hu
   rwa [List.reverse_reverse] at this⟩
theorem plus_a {L : List Int → Prop} {y : List Int} (hy : Star L y) : ∀ {x : List Int}, L x → ∃ p q, x ++ y = p ++ q ∧ Star L p ∧ L q := by
 induction hy with
 | nil => intro x hx; exact ⟨[], x, by simp, .nil, hx⟩
 | @app a b ha _ ih =>
   intro x hx
   obtain ⟨p, q, e, h1, h2⟩ := ih ha
   exact ⟨x ++ p, q, by rw [e, List.append_assoc], .app hx h1, h2⟩
theorem plus_b {L : List Int → Prop} {p : List Int} (hp : Star L p) {q : List Int} (hq : L q) : ∃ x y, p ++ q = x ++ y ∧ L x ∧ Star L y := by
 induction hp with
 | nil => exact ⟨q, [], by simp, hq, .nil⟩
 | @app a b ha _ ih =>
   obtain ⟨x, y, e, h1, h2⟩ := ih
   exact ⟨a, x ++ y, by rw [List.append_assoc, e], ha, .app h1 h2⟩
theorem rev_L (x : Rx) : ∀ u, x.rev.L u ↔ x.L u.reverse := by
 induction x with
 | leaf k s =>
   intro u
   unfold Rx.rev Rx.L
   by_cases h : k = 1
   · rw [if_pos h, if_pos h]
     constructor
     · rintro ⟨r, rfl, h2⟩; exact ⟨r, rfl, h2⟩
     · rintro ⟨r, e, h2⟩; exact ⟨r, by rw [← List.reverse_reverse u, e]; rfl, h2⟩
   · rw [if_neg h, if_neg h]; exact List.reverse_eq_nil_iff.symm
 | one k a ih =>
   intro u
   unfold Rx.rev Rx.L
   by_cases h8 : k = 8
   · rw [if_pos h8, if_pos h8, ih, List.reverse_eq_nil_iff]
   · rw [if_neg h8, if_neg h8]
     by_cases h7 : k = 7
     · rw [if_pos h7, if_pos h7]
       constructor
       · rintro ⟨x, y, rfl, h1, h2⟩
         rw [List.reverse_append]
         exact plus_b ((star_rev_iff ih y).1 h2) ((ih x).1 h1)
       · rintro ⟨x, y, e, h1, h2⟩
         obtain ⟨p, q, e2, h3, h4⟩ := plus_a h2 h1
         refine ⟨q.reverse, p.reverse, ?_, (ih _).2 (by rwa [List.reverse_reverse]), (star_rev_iff ih _).2 (by rwa [List.reverse_reverse])⟩
         rw [← List.reverse_append, ← e2, ← e, List.reverse_reverse]
     · rw [if_neg h7, if_neg h7]
       exact star_rev_iff ih u
 | two k a b iha ihb =>
   intro u
   unfold Rx.rev
   by_cases h4 : k = 4
   · rw [if_pos h4]
     unfold Rx.L
     rw [if_pos h4, if_pos h4]
     constructor
     · rintro ⟨x, y, rfl, h1, h2⟩
       exact ⟨y.reverse, x.reverse, by rw [List.reverse_append], (iha y).1 h2, (ihb x).1 h1⟩
     · rintro ⟨x, y, e, h1, h2⟩
       refine ⟨y.reverse, x.reverse, ?_, (ihb _).2 (by rwa [List.reverse_reverse]), (iha _).2 (by rwa [List.reverse_reverse])⟩
       rw [← List.reverse_append, ← e, List.reverse_reverse]
   · rw [if_neg h4]
     unfold Rx.L
     rw [if_neg h4, if_neg h4, iha, ihb]
theorem inc_uniq : ∀ {a b : List Int}, a.Pairwise (· < ·) → b.Pairwise (· < ·) → (∀ x, x ∈ a ↔ x ∈ b) → a = b
 | [], [], _, _, _ => rfl
 | [], y :: b, _, _, h => absurd ((h y).2 List.mem_cons_self) (by simp)
 | x :: a, [], _, _, h => absurd ((h x).1 List.mem_cons_self) (by simp)
 | x :: a, y :: b, ha, hb, h => by
   rw [List.pairwise_cons] at ha hb
   have hxy : x = y := by
     have h1 := (h x).1 List.mem_cons_self
     have h2 := (h y).2 List.mem_cons_self
     rw [List.mem_cons] at h1 h2
     rcases h1 with h1 | h1
     · exact h1
     · rcases h2 with h2 | h2
       · exact h2.symm
       · have := hb.1 x h1; have := ha.1 y h2; omega
   subst hxy
   rw [inc_uniq ha.2 hb.2 fun z => ?_]
   have := h z
   rw [List.mem_cons, List.mem_cons] at this
   constructor
   · intro hz
     rcases this.1 (.inr hz) with e | e
     · have := ha.1 z hz; omega
     · exact e
   · intro hz
     rcases this.2 (.inr hz) with e | e
     · have := hb.1 z hz; omega
     · exact e
def lst (m : Nat) : List Int := ((List.range 64).filter fun i => m.testBit i).map fun (i : Nat) => (i : Int)
theorem lst_inc (m : Nat) : (lst m).Pairwise (· < ·) := by
 unfold lst
 rw [List.pairwise_map]
 exact (List.pairwise_lt_range.filter _).imp fun h => by omega
theorem mem_lst {m : Nat} {z : Int} : z ∈ lst m ↔ ∃ i : Nat, i < 64 ∧ bit m i ∧ z = (i : Int) := by
 unfold lst bit
 simp only [List.mem_map, List.mem_filter, List.mem_range]
 exact ⟨fun ⟨i, ⟨h1, h2⟩, h3⟩ => ⟨i, h1, h2, h3.symm⟩, fun ⟨i, h1, h2, h3⟩ => ⟨i, ⟨h1, h2⟩, h3.symm⟩⟩
theorem lst_len (m : Nat) : (lst m).length ≤ 64 := by
 unfold lst
 rw [List.length_map]
 exact Nat.le_trans (List.length_filter_le _ _) (by simp)
end E
open E (btw bit eM lst Kd)
theorem pls_mem {zs : List Int} {x : Rx} {g : Nat → Int} {m : Nat} {z : Int} : z ∈ pls zs x g m ↔ ∃ i, i < m ∧ hit zs x i = true ∧ z = g i := by
 unfold pls
 simp only [List.mem_map, List.mem_filter, List.mem_range]
 exact ⟨fun ⟨i, ⟨h1, h2⟩, h3⟩ => ⟨i, h1, h2, h3.symm⟩, fun ⟨i, h1, h2, h3⟩ => ⟨i, ⟨h1, h2⟩, h3.symm⟩⟩
theorem ends_eq {x : Rx} (hk : Kd x) {xs : List Int} (hl : xs.length ≤ 60) {f : Nat} (hf : f ≤ xs.length) :
   pls (xs.drop f) x (fun m => (f : Int) + (m : Int)) (xs.length - f + 1) = lst (eM xs x (2 ^ f)) := by
 refine E.inc_uniq ?_ (E.lst_inc _) fun z => ?_
 · unfold pls
   rw [List.pairwise_map]
   exact (List.pairwise_lt_range.filter _).imp fun h => by omega
 · rw [pls_mem, E.mem_lst]
   constructor
   · rintro ⟨i, h1, h2, rfl⟩
     have h3 := (hit_iff _ _ i (by rw [List.length_drop]; omega)).1 h2
     refine ⟨f + i, by omega, (E.eM_one hk hf _).2 ⟨by omega, by omega, ?_⟩, by omega⟩
     unfold btw
     rwa [Nat.add_sub_cancel_left]
   · rintro ⟨j, h1, h2, rfl⟩
     obtain ⟨h3, h4, h5⟩ := (E.eM_one hk hf _).1 h2
     refine ⟨j - f, by omega, (hit_iff _ _ _ (by rw [List.length_drop]; omega)).2 h5, by omega⟩
def bM (xs : List Int) (x : Rx) (f : Nat) : Nat → Nat
 | 0 => 0
 | k + 1 => bM xs x f k ||| (if (eM xs x (2 ^ k)).testBit f then 2 ^ k else 0)
theorem bM_bit (xs : List Int) (x : Rx) (f j : Nat) : ∀ k, bit (bM xs x f k) j ↔ j < k ∧ bit (eM xs x (2 ^ j)) f
 | 0 => by unfold bM bit; simp
 | k + 1 => by
   rw [bM, E.bit_or, bM_bit xs x f j k]
   constructor
   · rintro (⟨h1, h2⟩ | h)
     · exact ⟨by omega, h2⟩
     · split at h
       · rename_i hc
         obtain rfl := (E.bit_two _ _).1 h
         exact ⟨by omega, hc⟩
       · unfold bit at h; simp at h
   · rintro ⟨h1, h2⟩
     by_cases e : j = k
     · subst e
       right
       rw [if_pos (show (eM xs x (2 ^ j)).testBit f = true from h2)]
       exact (E.bit_two _ _).2 rfl
     · exact .inl ⟨by omega, h2⟩
theorem begs_eq {x : Rx} (hk : Kd x) {xs : List Int} (hl : xs.length ≤ 60) {f : Nat} (hf : f ≤ xs.length) :
   (pls (xs.take f).reverse x.rev (fun m => (f : Int) - (m : Int)) (f + 1)).reverse = lst (bM xs x f (f + 1)) := by
 have hb : ∀ i, i ≤ f → ((xs.take f).reverse.take i).reverse = btw xs (f - i) f := fun i hi => by
   unfold btw
   rw [List.take_reverse, List.reverse_reverse, List.length_take, Nat.min_eq_left hf, List.drop_take]
 refine E.inc_uniq ?_ (E.lst_inc _) fun z => ?_
 · rw [List.pairwise_reverse]
   unfold pls
   rw [List.pairwise_map]
   refine List.Pairwise.imp_of_mem ?_ (List.pairwise_lt_range.filter _)
   intro a b ha hb h
   simp only [List.mem_filter, List.mem_range] at ha hb
   omega
 · rw [List.mem_reverse, pls_mem, E.mem_lst]
   constructor
   · rintro ⟨i, h1, h2, rfl⟩
     have h3 := (hit_iff _ _ i (by rw [List.length_reverse, List.length_take]; omega)).1 h2
     rw [E.rev_L, hb i (by omega)] at h3
     exact ⟨f - i, by omega, (bM_bit xs x f _ _).2 ⟨by omega, (E.eM_one hk (by omega) _).2 ⟨by omega, hf, h3⟩⟩, by omega⟩
   · rintro ⟨j, h1, h2, rfl⟩
     obtain ⟨h3, h4⟩ := (bM_bit xs x f _ _).1 h2
     obtain ⟨_, _, h5⟩ := (E.eM_one hk (by omega) _).1 h4
     refine ⟨f - j, by omega, (hit_iff _ _ _ (by rw [List.length_reverse, List.length_take]; omega)).2 ?_, by omega⟩
     rw [E.rev_L, hb _ (by omega), show f - (f - j) = j by omega]
     exact h5
theorem all_eq {x : Rx} (hk : Kd x) {xs : List Int} : bit (eM xs x 1) xs.length ↔ x.L xs := by
 have := E.eM_one (xs := xs) hk (Nat.zero_le _) xs.length
 rw [show (2 ^ 0 : Nat) = 1 from rfl] at this
 rw [this]
 unfold btw
 rw [List.drop_zero, Nat.sub_zero, List.take_length]
 exact ⟨fun h => h.2.2, fun h => ⟨Nat.zero_le _, Nat.le_refl _, h⟩⟩
end Go.Proofs.YtemanednddhfaaaGreatDoor
namespace Go.Proofs.YtemanednddhfaaaGreatDoor
open Go.RowKit Go.Shelf
attribute [local go_sem] Oper.semAt_some
open E (T)
namespace PA
theorem names_of {t : T} (h : E.IsP t) : ∀ p ∈ E.pre t t, p.1.name.length ≤ 100000 := fun p hp => by
 obtain ⟨h1, h2⟩ := h.2 p hp
 rcases h2 with ⟨_, h3, _⟩ | ⟨_, _, h3⟩ | ⟨_, _, _, h3⟩
 · rw [h3]; decide
 · unfold E.nameP at h3
   simp only [Bool.and_eq_true, decide_eq_true_eq] at h3
   omega
 · rw [h3]; decide
end PA
theorem OwnN.rd' {w : World} {B : Nat} {v : Value} {ss : List (List UInt8)} (h : OwnN w B v ss) : ∃ ao c, v = .slice ao ss.length c := by
 obtain ⟨_, ⟨rfl, h0⟩ | ⟨g, cap, _, rfl, _⟩⟩ := h
 · exact ⟨none, 0, by rw [h0]⟩
 · exact ⟨_, _, rfl⟩
end Go.Proofs.YtemanednddhfaaaGreatDoor
