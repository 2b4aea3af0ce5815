/- Joined: Enw. -/
import Derived.Test.YtemanednddhfaaaGreatDoorMEnd
import Derived.Maps.OwnIn
namespace Go.Proofs.YtemanednddhfaaaGreatDoor
open Go.RowKit Go.Shelf
open E (Ps Rx T rxOf Vp)
attribute [local go_sem] Oper.semAt_some
def EndP (t : T) (xs : List Int) (f : Int) (zs : List Int) : Prop :=
 ((0 ≤ f ∧ f ≤ (xs.length : Int) ∧ E.PlainP t) ∧ zs = pls (xs.drop f.toNat) (rxOf t) (fun m => f + (m : Int)) (xs.length - f.toNat + 1)) ∨ (¬ (0 ≤ f ∧ f ≤ (xs.length : Int) ∧ E.PlainP t) ∧ zs = [])
theorem OwnI.mono {w : World} {B C : Nat} {v : Value} {ss : List Int} (h : OwnI w B v ss) (hc : C ≤ B) : OwnI w C v ss := by
 obtain ⟨h1, h2 | ⟨g, cap, cur, rfl, h3, h4, h5⟩⟩ := h
 · exact ⟨h1, .inl h2⟩
 · exact ⟨h1, .inr ⟨g, cap, cur, rfl, Nat.le_trans hc h3, h4, h5⟩⟩
theorem OwnI.alloc {w : World} {B : Nat} {v : Value} {ss : List Int} (h : OwnI w B v ss) (o : Obj) : OwnI (w.alloc o) B v ss :=
 h.same fun _ _ _ hg => (Below.heap_alloc _ _ _ (Array.getElem?_eq_some_iff.1 hg).1).trans hg
theorem OwnI.notRow {w : World} {B : Nat} {v : Value} {ss : List Int} (h : OwnI w B v ss) {k : Nat} {o : Obj} (hk : w.heap[k]? = some o) (hn : ∀ c t f, o ≠ .cells c t f) : v.ownBlock ≠ some k := by
 intro e
 obtain ⟨_, ⟨rfl, _⟩ | ⟨g', cap, cur, rfl, h5, h6, _⟩⟩ := h
 · cases e
 · cases e
   rw [hk] at h6
   cases h6
   exact hn _ _ _ rfl
theorem IB.notRow {B pb : Nat} {ss : List Int} {A : World} (h : IB B pb ss A) {k : Nat} {o : Obj} (hk : A.heap[k]? = some o) (hn : ∀ c t f, o ≠ .cells c t f) : ¬ Ow pb A k := by
 rintro ⟨v', t, f, h3, h4⟩
 obtain ⟨v, h1, h2⟩ := h
 rw [h1] at h3
 cases h3
 exact h2.notRow hk hn h4
set_option maxRecDepth 100000 in
set_option maxHeartbeats 4000000 in
theorem endsM_in (t : T) (d : ND) (w : World) (htab : Tabs w) (hT : TR w (fun _ => True) t d.v) (hps : (E.pre t t).length ≤ 1000000) (hnb : ∀ p ∈ E.pre t t, E.NodeB p.1) (ao : Option Addr) (cap : Nat) (xs : List Int) (hx : RdC32 w ao xs) (hlen : xs.length ≤ 1000000) (hcap : xs.length ≤ cap) (f : Int) :
   CallsIn Fence.wide 9 Tryz.prog 33 #[d.v, .slice ao xs.length cap, .int .i64 f] w fun e W' => (∃ v zs, e = .returned v ∧ OwnI W' w.heap.size v zs ∧ EndP t xs f zs) ∧ Below w.heap.size w W' := by
 have hpl := fun W hb => plain_any t d W (htab.later hb) (TR.later (fun k hk => Below.block hb k hk) _ hT) hps hnb
 have hwi := within_any ao xs.length cap f
 unfold ND.v at hpl ⊢
 refine callsIn_of_wp_marks Tryz.func33 rfl trivial ?_ rfl
 simp only [Tryz.ntmps33, List.size_toArray, List.length_cons, List.length_nil, Nat.reduceAdd, Nat.reduceSub, Array.replicate_succ, Array.replicate_zero, List.push_toArray, List.append_toArray, List.nil_append, List.cons_append]
 have a1 := al1 w (.cells #[.int .i64 d.k, .int .i64 d.a, .slice d.sp d.sl d.sc, .string d.n, .slice d.kp d.kl d.kc] 26)
 have n1 := heap_alloc_new w (.cells #[.int .i64 d.k, .int .i64 d.a, .slice d.sp d.sl d.sc, .string d.n, .slice d.kp d.kl d.kc] 26)
 have a2 := al1 (w.alloc (.cells #[.int .i64 d.k, .int .i64 d.a, .slice d.sp d.sl d.sc, .string d.n, .slice d.kp d.kl d.kc] 26)) (.cells #[.int .i64 f] 3)
 have n2 := heap_alloc_new (w.alloc (.cells #[.int .i64 d.k, .int .i64 d.a, .slice d.sp d.sl d.sc, .string d.n, .slice d.kp d.kl d.kc] 26)) (.cells #[.int .i64 f] 3)
 have s2 : ((w.alloc (.cells #[.int .i64 d.k, .int .i64 d.a, .slice d.sp d.sl d.sc, .string d.n, .slice d.kp d.kl d.kc] 26)).alloc (.cells #[.int .i64 f] 3)).heap.size = w.heap.size + 2 := by simp
 rw [World.size_alloc] at n2
 have m1 := (a2.block w.heap.size (by simp)).trans n1
 have b3 := nx a1 a2
 have hp := hpl _ b3
 have hw := hwi ((w.alloc (.cells #[.int .i64 d.k, .int .i64 d.a, .slice d.sp d.sl d.sc, .string d.n, .slice d.kp d.kl d.kc] 26)).alloc (.cells #[.int .i64 f] 3))
 clear hpl n1 a1 a2 hwi
 gi_wp2_with fail
 refine ⟨trivial, (callsIn_wide.2 hw).mono ?_⟩
 rintro e W0 ⟨⟨b, rfl, hb⟩, rfl⟩
 have HB := hide hb
 clear hw hb
 cases b with
 | false =>
   have hI : Hid (¬ (0 ≤ f ∧ f ≤ (xs.length : Int))) := hide (fun h => by have := HB.out.2 h; cases this)
   clear HB
   gi_wp2
   refine ⟨trivial, ?_⟩
   gi_wp2
   exact ⟨_, results_tmp rfl _ _ _, ⟨_, [], rfl, ownI_nil _ _, .inr ⟨fun h => hI.out ⟨h.1, h.2.1⟩, rfl⟩⟩, b3⟩
 | true =>
   have hI := hide (HB.out.1 rfl)
   clear HB
   gi_wp2_with fail
   refine ⟨trivial, (callsIn_wide.2 hp).mono ?_⟩
   rintro e W1 ⟨⟨b, rfl, hb⟩, hb1⟩
   have hs1 := hb1.size
   rw [s2] at hs1
   have x1 := (hb1.block w.heap.size (by omega)).trans m1
   have x2 := (hb1.block (w.heap.size + 1) (by omega)).trans n2
   have bW := nx b3 hb1
   have HB := hide hb
   clear hp hb hb1 m1 n2 b3 s2
   cases b with
   | false =>
     have hP : Hid (¬ E.PlainP t) := hide (fun h => by have := HB.out.2 h; cases this)
     clear HB x1 x2
     gi_wp2
     exact ⟨_, results_tmp rfl _ _ _, ⟨_, [], rfl, ownI_nil _ _, .inr ⟨fun h => hP.out h.2.2, rfl⟩⟩, bW⟩
   | true =>
     have hP := hide (HB.out.1 rfl)
     clear HB
     obtain ⟨g, hg⟩ : ∃ g : Nat, f = (g : Int) := ⟨f.toNat, by have := hI.out.1; omega⟩
     have hgl : g ≤ xs.length := by have := hI.out.2; omega
     subst hg
     clear hI
     obtain ⟨ac, hac, hxc⟩ := cut_from8 hx g hgl hcap
     have hll : (xs.drop g).length ≤ 1000000 := by rw [List.length_drop]; omega
     gi_wp2
     have a3 := al1 W1 (.cells #[.slice none 0 0] 60)
     have n3 := heap_alloc_new W1 (.cells #[.slice none 0 0] 60)
     have s3 : (W1.alloc (.cells #[.slice none 0 0] 60)).heap.size = W1.heap.size + 1 := by simp
     have z1 := (a3.block w.heap.size (by omega)).trans x1
     have z2 := (a3.block (w.heap.size + 1) (by omega)).trans x2
     have bZ := bW.trans (a3.mono (show w.heap.size ≤ W1.heap.size by omega))
     obtain ⟨Z, hZ⟩ : ∃ Z, W1.alloc (.cells #[.slice none 0 0] 60) = Z := ⟨_, rfl⟩
     rw [hZ] at a3 n3 s3 z1 z2 bZ ⊢
     clear hZ x1 x2 a3
     have kx : ∀ w', Below (W1.heap.size + 1) Z.drew w' → w'.heap[w.heap.size]? = some (.cells #[.int .i64 d.k, .int .i64 d.a, .slice d.sp d.sl d.sc, .string d.n, .slice d.kp d.kl d.kc] 26) ∧ w'.heap[w.heap.size + 1]? = some (.cells #[.int .i64 (g : Int)] 3) := fun w' hb => ⟨(hb.block _ (by omega)).trans z1, (hb.block _ (by omega)).trans z2⟩
     refine noPan (wpIn_wide.2 ?_)
     refine Reg.start (B := W1.heap.size + 1) (by kernel_rfl) ?_
     refine Reg.take (fun _ _ _ _ _ h => h) 0 _ 18 (.agg #[.int .i64 d.k, .int .i64 d.a, .slice d.sp d.sl d.sc, .string d.n, .slice d.kp d.kl d.kc]) rfl (by kernel_rfl) (by kernel_rfl) (by kernel_rfl) rfl (by kernel_rfl) (by kernel_rfl) (fun w' hb => Reg.ldN rfl rfl (kx w' hb).1) ?_
     refine Reg.take (fun _ _ _ _ _ h => h) 1 _ 19 (.slice ao xs.length cap) rfl (by kernel_rfl) (by kernel_rfl) (by kernel_rfl) rfl (by kernel_rfl) (by kernel_rfl) (fun w' hb => Rcl.mvE rfl rfl) ?_
     refine Reg.take (fun _ _ _ _ _ h => h) 2 _ 20 (.int .i64 (g : Int)) rfl (by kernel_rfl) (by kernel_rfl) (by kernel_rfl) rfl (by kernel_rfl) (by kernel_rfl) (fun w' hb => Reg.ldS rfl rfl (by simp [World.cell?, (kx w' hb).2]) (Tryz.isAgg3 _)) ?_
     refine Reg.take (fun _ _ _ _ _ h => h) 3 _ 21 (.slice ac (xs.drop g).length (cap - g)) rfl (by kernel_rfl) (by kernel_rfl) (by kernel_rfl) rfl (by kernel_rfl) (by kernel_rfl) (fun w' hb => Rcl.slf rfl rfl rfl (hac w')) ?_
     refine Reg.call 4 _ 22 62 _ _ #[.slice ac (xs.drop g).length (cap - g)] rfl (by kernel_rfl) rfl (by kernel_rfl) (by kernel_rfl) rfl (by kernel_rfl) (by kernel_rfl) (all_make ac (xs.drop g).length (cap - g) Z.drew) ?_
     rintro e w4 ⟨rfl, rfl⟩
     have hz : Z.drew.heap.size = W1.heap.size + 1 := s3
     rw [hz]
     have y0 := heap_alloc_new Z.drew (.cells #[.slice ac (xs.drop g).length (cap - g)] 53)
     have yb := al1 Z.drew (.cells #[.slice ac (xs.drop g).length (cap - g)] 53)
     have ys : (Z.drew.alloc (.cells #[.slice ac (xs.drop g).length (cap - g)] 53)).heap.size = W1.heap.size + 2 := by simp [s3]
     rw [show Z.drew.heap.size = W1.heap.size + 1 from s3] at y0 yb
     refine ⟨_, W1.heap.size + 1, rfl, Nat.le_refl _, yb, ?_⟩
     obtain ⟨Y, hY0⟩ : ∃ Y, Z.drew.alloc (.cells #[.slice ac (xs.drop g).length (cap - g)] 53) = Y := ⟨_, rfl⟩
     rw [hY0] at y0 yb ys ⊢
     have hlm := lens_make 61 96 (W1.heap.size + 1) d Y
     unfold ND.v at hlm
     refine Reg.call 5 _ 23 60 _ _ #[.agg #[.int .i64 d.k, .int .i64 d.a, .slice d.sp d.sl d.sc, .string d.n, .slice d.kp d.kl d.kc], .func (.func 61) #[] #[], .func (.func 96) #[] #[.pointer (some ⟨W1.heap.size + 1, 0, none⟩)]] rfl (by kernel_rfl) rfl (by kernel_rfl) (by kernel_rfl) rfl (by kernel_rfl) (by kernel_rfl) hlm ?_
     rintro e w5 ⟨rfl, rfl⟩
     clear hlm hY0 kx
     have v1 := al1 Y (.cells #[.int .i64 d.k, .int .i64 d.a, .slice d.sp d.sl d.sc, .string d.n, .slice d.kp d.kl d.kc] 26)
     have u1 := heap_alloc_new Y (.cells #[.int .i64 d.k, .int .i64 d.a, .slice d.sp d.sl d.sc, .string d.n, .slice d.kp d.kl d.kc] 26)
     have v2 := al1 (Y.alloc (.cells #[.int .i64 d.k, .int .i64 d.a, .slice d.sp d.sl d.sc, .string d.n, .slice d.kp d.kl d.kc] 26)) (.cells #[.func (.func 61) #[] #[]] 105)
     have u2 := heap_alloc_new (Y.alloc (.cells #[.int .i64 d.k, .int .i64 d.a, .slice d.sp d.sl d.sc, .string d.n, .slice d.kp d.kl d.kc] 26)) (.cells #[.func (.func 61) #[] #[]] 105)
     have v3 := al1 ((Y.alloc (.cells #[.int .i64 d.k, .int .i64 d.a, .slice d.sp d.sl d.sc, .string d.n, .slice d.kp d.kl d.kc] 26)).alloc (.cells #[.func (.func 61) #[] #[]] 105)) (.cells #[.func (.func 96) #[] #[.pointer (some ⟨W1.heap.size + 1, 0, none⟩)]] 107)
     have u3 := heap_alloc_new ((Y.alloc (.cells #[.int .i64 d.k, .int .i64 d.a, .slice d.sp d.sl d.sc, .string d.n, .slice d.kp d.kl d.kc] 26)).alloc (.cells #[.func (.func 61) #[] #[]] 105)) (.cells #[.func (.func 96) #[] #[.pointer (some ⟨W1.heap.size + 1, 0, none⟩)]] 107)
     rw [World.size_alloc] at u2
     rw [World.size_alloc, World.size_alloc] at u3
     have e1 := ((nx v2 v3).block Y.heap.size (by simp)).trans u1
     have e2 := (v3.block (Y.heap.size + 1) (by simp)).trans u2
     have vb := nx v1 (nx v2 v3)
     have e0 := (vb.block (W1.heap.size + 1) (by omega)).trans y0
     have sX : (((Y.alloc (.cells #[.int .i64 d.k, .int .i64 d.a, .slice d.sp d.sl d.sc, .string d.n, .slice d.kp d.kl d.kc] 26)).alloc (.cells #[.func (.func 61) #[] #[]] 105)).alloc (.cells #[.func (.func 96) #[] #[.pointer (some ⟨W1.heap.size + 1, 0, none⟩)]] 107)).heap.size = Y.heap.size + 3 := by simp
     have vb1 := yb.trans (vb.mono (show W1.heap.size + 1 ≤ Y.heap.size by omega))
     refine ⟨_, W1.heap.size + 1, rfl, Nat.le_refl _, vb.mono (by omega), ?_⟩
     obtain ⟨X, hX⟩ : ∃ X, ((Y.alloc (.cells #[.int .i64 d.k, .int .i64 d.a, .slice d.sp d.sl d.sc, .string d.n, .slice d.kp d.kl d.kc] 26)).alloc (.cells #[.func (.func 61) #[] #[]] 105)).alloc (.cells #[.func (.func 96) #[] #[.pointer (some ⟨W1.heap.size + 1, 0, none⟩)]] 107) = X := ⟨_, rfl⟩
     rw [hX] at e1 e2 u3 e0 sX vb vb1 ⊢
     refine Reg.done (by kernel_rfl) ?_
     simp only [NoPan, Reg.ov, Act.put, List.setIfInBounds_toArray, List.set_cons_succ, List.set_cons_zero]
     rw [show Y.heap.size + 1 + 1 = Y.heap.size + 2 from rfl] at u3
     rw [ys] at e1 e2 u3 sX ⊢
     have xb1 := (vb1.block (w.heap.size + 1) (show w.heap.size + 1 < W1.heap.size + 1 by omega)).trans z2
     have xb3 := (vb1.block W1.heap.size (show W1.heap.size < W1.heap.size + 1 by omega)).trans n3
     have bX : Below w.heap.size w X := bZ.drew.trans (vb1.mono (show w.heap.size ≤ W1.heap.size + 1 by omega))
     have sX2 : W1.heap.size + 5 ≤ X.heap.size := by omega
     clear hX v1 v2 v3 u1 u2 vb vb1 yb y0 sX ys n3 z1 z2
     gi_wp2
     refine enter3 (gf := 92) (lb := #[.pointer (some ⟨W1.heap.size + 2 + 1, 0, none⟩), .pointer (some ⟨W1.heap.size + 2, 0, none⟩), .pointer (some ⟨W1.heap.size + 2 + 2, 0, none⟩)]) rfl (enters_of Tryz.func92 (by kernel_rfl) rfl) ?_
     intro r We hr hrec hdef hszE hbE
     have bE := bX.trans (hbE.mono (by omega))
     have k1 := (hbE.block (w.heap.size + 1) (by omega)).trans xb1
     have k3 := (hbE.block W1.heap.size (by omega)).trans xb3
     have hsl : Hid ((xs.drop g).length = xs.length - g) := hide (List.length_drop)
     obtain ⟨zs, hzs⟩ : ∃ zs, xs.drop g = zs := ⟨_, rfl⟩
     rw [hzs] at hll hsl hxc e0
     have ib0 : IB (W1.heap.size + 1) W1.heap.size (pls zs (rxOf t) (fun m => (g : Int) + (m : Int)) 0) We := ⟨_, k3, by simpa [pls] using ownI_nil We (W1.heap.size + 1)⟩
     refine (lens66_in 8 (by omega) w (rxOf t) d zs (W1.heap.size + 1) W1.heap.size (W1.heap.size + 2 + 1) (W1.heap.size + 2) (W1.heap.size + 2 + 2) (W1.heap.size + 1) (X.heap.size + 1) _ (fwd_mk t hP.out.vp d w hT) (pts_all hxc hll (W1.heap.size + 1)) hll (by omega) (by omega) (by omega) (by omega)
       (fun m A => IB (W1.heap.size + 1) W1.heap.size (pls zs (rxOf t) (fun m => (g : Int) + (m : Int)) m) A ∧ A.heap[w.heap.size + 1]? = some (.cells #[.int .i64 (g : Int)] 3) ∧ A.heap[X.heap.size + 1]? = some (.loop r) ∧ A.heap[X.heap.size]? = some (.deferred (some [])) ∧ Below w.heap.size w A)
       (fun m A => False)
       We ((hbE.block _ (by omega)).trans e2) ((hbE.block _ (by omega)).trans e1) ((hbE.block _ (by omega)).trans u3) ((hbE.block _ (by omega)).trans e0) bE (by omega) (by omega) ?stable (fun _ _ _ h _ => h) ?skip ?lt ?own0 ?round ⟨ib0, k1, hrec.out, hdef.out, bE⟩).mono ?_
     case stable =>
       rintro m A A' ⟨j1, j2, j3, j4, j5⟩ hb
       exact ⟨j1.keep hb (by omega), (hb.below.block _ (by omega)).trans j2, (hb.below.block _ (by omega)).trans j3, (hb.below.block _ (by omega)).trans j4, j5.trans (hb.below.mono (by omega))⟩
     case skip =>
       rintro m A hm ⟨j1, j2, j3, j4, j5⟩
       refine ⟨?_, j2, j3, j4, j5⟩
       rw [pls_succ, hm]
       simpa using j1
     case lt =>
       rintro m A ⟨j1, _⟩ k ho
       exact (j1.ow ho).1
     case own0 =>
       rintro k _ ⟨v, t', f', h1, h2⟩
       rw [k3] at h1
       cases h1
       cases h2
     case round =>
       rintro m hm hhit A ⟨j1, j2, j3, j4, j5⟩ hle hBA
       have HP : Hid (pls zs (rxOf t) (fun m => (g : Int) + (m : Int)) (m + 1) = pls zs (rxOf t) (fun m => (g : Int) + (m : Int)) m ++ [(g : Int) + (m : Int)]) := hide (by rw [pls_succ, hhit]; rfl)
       have hlp := pls_le zs (rxOf t) (fun m => (g : Int) + (m : Int)) m
       obtain ⟨ss, hss⟩ : ∃ ss, pls zs (rxOf t) (fun m => (g : Int) + (m : Int)) m = ss := ⟨_, rfl⟩
       rw [hss] at j1 HP hlp
       clear hss hhit
       obtain ⟨i0, hi0, hz0, hz1, hz2⟩ := info_parts info3N
       refine yield3 hr j3 rfl ?_
       gi_wp2
       have hl1 : X.heap.size + 1 < A.heap.size := (Array.getElem?_eq_some_iff.1 j3).1
       intro rb
       have hne : ∀ k, k ≠ X.heap.size + 1 → (A.putObj (X.heap.size + 1) (.loop rb)).heap[k]? = A.heap[k]? := fun k hk => World.putObj_heap_other hk
       have nl := j1.notRow j3 (fun _ _ _ h => by cases h)
       have kib := j1.put (show W1.heap.size ≠ X.heap.size + 1 by omega) nl (.loop rb)
       have k2 := (hne (w.heap.size + 1) (by omega)).trans j2
       have kr := hide (World.putObj_heap_same (w := A) (o := .loop rb) hl1)
       have ksz : (A.putObj (X.heap.size + 1) (.loop rb)).heap.size = A.heap.size := World.putObj_size
       have HNE := hide hne
       have kb : Hid (Below w.heap.size A (A.putObj (X.heap.size + 1) (.loop rb))) := hide (below_put _ _ (by omega))
       have kow : Hid (∀ k, Ow W1.heap.size (A.putObj (X.heap.size + 1) (.loop rb)) k ↔ Ow W1.heap.size A k) := hide (fun k => ⟨fun h => h.of (hne _ (by omega)), fun h => h.of (hne _ (by omega)).symm⟩)
       obtain ⟨A1, hA1⟩ : ∃ A1, A.putObj (X.heap.size + 1) (.loop rb) = A1 := ⟨_, rfl⟩
       rw [hA1] at kib k2 kr ksz HNE kb kow ⊢
       obtain ⟨v, k1, ko⟩ := kib
       have c1 : A1.cell? ⟨W1.heap.size, 0, none⟩ = some v := by simp [World.cell?, k1]
       have c2 : A1.cell? ⟨w.heap.size + 1, 0, none⟩ = some (.int .i64 (g : Int)) := by simp [World.cell?, k2]
       have HJ1 := hide j1
       have HJ2 := hide j2
       have HJ3 := hide j3
       have HJ4 := hide j4
       have HJ5 := hide j5
       have K1 := hide k1
       have K2 := hide k2
       have NL := hide nl
       have HS := hide ksz
       have kle : W1.heap.size + 1 ≤ A1.heap.size := by omega
       have kl2 : w.heap.size + 2 ≤ A1.heap.size := by omega
       clear hA1 hne j1 j2 j3 j4 j5 k1 k2 nl ksz
       gi_wp2_with (gi_at_builtin; refine wpListIn_append_own_at _ rfl _ _ 60 rfl (W1.heap.size + 1) 3 i0 (.int .i64 0) 1 8 Tryz.underlying60 hi0 hz0 hz1 hz2 rfl (by decide) v ss.length (ss.map (Value.int .i64)) rfl (ko.alloc _) ⟨A1.heap.size, 0, none⟩ 1 1 [.int .i64 ((g : Int) + (m : Int))] rfl rfl (cell_one_new _ _ _) (by simp [Value.oneCell']) (by unfold maxLen; omega) (by omega) (by simp; omega) ?_; intro v' w1 hown' hgrow _ hat; obtain ⟨g', cap', rfl⟩ := ownsRow_succ hown'; obtain ⟨hp1, hib, hkp, how, hsz, hos, htp, hou⟩ := ib_app (by omega) kle K1.out ko hown' hgrow hat; have hc1 : w1.cell? ⟨W1.heap.size, 0, none⟩ = some v := (by simp [World.cell?, hp1]); have hf1 : w1.frozen? ⟨W1.heap.size, 0, none⟩ = false := (by simp [World.frozen?, hp1]); have HIB := hide hib; have HKP := hide hkp; have HOW := hide how; have HSZ := hide hsz; have HOS := hide (And.intro hos (And.intro htp hou)); clear hib hkp how hsz hos htp hou hown' hgrow hat hp1 c1 c2)
       have fin : ∀ W4 : World, IB (W1.heap.size + 1) W1.heap.size (ss ++ [(g : Int) + (m : Int)]) W4 → (∀ k, k ≠ W1.heap.size → k < A1.heap.size → ¬ Ow W1.heap.size A1 k → W4.heap[k]? = A1.heap[k]?) → (∀ k, k < A1.heap.size → Ow W1.heap.size W4 k → Ow W1.heap.size A1 k) → A1.heap.size ≤ W4.heap.size → (W4.os = A1.os ∧ W4.tape = A1.tape ∧ W4.output = A1.output) →
           W4.heap[X.heap.size + 1]? = some (.loop rb) ∧ FrO W1.heap.size w.heap.size (W1.heap.size + 1) A (W4.putObj (X.heap.size + 1) (.loop r)) ∧ IB (W1.heap.size + 1) W1.heap.size (pls zs (rxOf t) (fun m => (g : Int) + (m : Int)) (m + 1)) (W4.putObj (X.heap.size + 1) (.loop r)) ∧ (W4.putObj (X.heap.size + 1) (.loop r)).heap[w.heap.size + 1]? = some (.cells #[.int .i64 (g : Int)] 3) ∧ (W4.putObj (X.heap.size + 1) (.loop r)).heap[X.heap.size + 1]? = some (.loop r) ∧ (W4.putObj (X.heap.size + 1) (.loop r)).heap[X.heap.size]? = some (.deferred (some [])) ∧ Below w.heap.size w (W4.putObj (X.heap.size + 1) (.loop r)) := by
         intro W4 h1 h2 h3 h4 h5
         have hS := HS.out
         have nlA : ¬ Ow W1.heap.size A1 (X.heap.size + 1) := fun h => NL.out ((kow.out _).1 h)
         have m3 := (h2 (X.heap.size + 1) (by omega) (by omega) nlA).trans kr.out
         have hnp : ∀ k, k ≠ X.heap.size + 1 → (W4.putObj (X.heap.size + 1) (.loop r)).heap[k]? = W4.heap[k]? := fun k hk => World.putObj_heap_other hk
         have hsame : (W4.putObj (X.heap.size + 1) (.loop r)).heap[X.heap.size + 1]? = some (.loop r) := World.putObj_heap_same (Array.getElem?_eq_some_iff.1 m3).1
         have hall : ∀ k, k ≠ W1.heap.size → k < A.heap.size → ¬ Ow W1.heap.size A k → (W4.putObj (X.heap.size + 1) (.loop r)).heap[k]? = A.heap[k]? := fun k hk hk' ho => by
           by_cases he : k = X.heap.size + 1
           · rw [he, hsame]; exact HJ3.out.symm
           · rw [hnp k he, h2 k hk (by omega) (fun h => ho ((kow.out _).1 h))]
             exact HNE.out k he
         have hlow : ∀ k, k < W1.heap.size → ¬ Ow W1.heap.size A k := fun k hk ho => by
           have := (HJ1.out.ow ho).2
           omega
         have b9 : Below w.heap.size A (W4.putObj (X.heap.size + 1) (.loop r)) := ⟨h5.1.trans kb.out.os, h5.2.1.trans kb.out.tape, h5.2.2.trans kb.out.output, by rw [World.putObj_size]; omega, fun k hk => hall k (by omega) (by omega) (hlow k (by omega))⟩
         refine ⟨m3, ⟨b9.os, b9.tape, b9.output, b9.size, b9.block, fun k hk hk' ho => hall k (by omega) hk' ho, fun k hk ho => (kow.out _).1 (h3 k (by omega) (ho.of (hnp _ (by omega))))⟩, ?_, (hall _ (by omega) (by omega) (hlow _ (by omega))).trans HJ2.out, hsame, (hall _ (by omega) (by omega) (HJ1.out.notRow HJ4.out (fun _ _ _ h => by cases h))).trans HJ4.out, HJ5.out.trans b9⟩
         rw [HP.out]
         exact h1.put (by omega) (fun h => nlA (h3 _ (by omega) h)) _
       obtain ⟨f1, f2, f3, f4, f5, f6, f7⟩ := fin _ HIB.out HKP.out HOW.out HSZ.out HOS.out
       exact ⟨f1, rfl, f2, f3, f4, f5, f6, f7⟩
     rintro e W' ⟨hv, h⟩
     refine ⟨hv, ?_⟩
     rcases h with ⟨j1, j2, j3, j4, j5⟩ | ⟨_, _, h⟩
     · refine .inl ⟨j3, fun r' => ?_⟩
       have hnp : ∀ k, k ≠ X.heap.size + 1 → (W'.putObj (X.heap.size + 1) (.loop r')).heap[k]? = W'.heap[k]? := fun k hk => World.putObj_heap_other hk
       have q1 := j1.put (show W1.heap.size ≠ X.heap.size + 1 by omega) (j1.notRow j3 (fun _ _ _ h => by cases h)) (.loop r')
       have q4 := (hnp X.heap.size (by omega)).trans j4
       have q5 := j5.trans (below_put (n := w.heap.size) W' (.loop r') (show w.heap.size ≤ X.heap.size + 1 by omega))
       clear j1 j2 j3 j4 j5 hnp
       generalize W'.putObj (X.heap.size + 1) (.loop r') = W9 at *
       obtain ⟨v, q1, q2⟩ := q1
       have c1 : W9.cell? ⟨W1.heap.size, 0, none⟩ = some v := by simp [World.cell?, q1]
       have HQ := hide q2
       have HR : Hid (EndP t xs (g : Int) (pls zs (rxOf t) (fun m => (g : Int) + (m : Int)) (zs.length + 1))) := hide (.inl ⟨⟨by omega, by omega, hP.out⟩, by rw [Int.toNat_natCast, hzs, hsl.out]⟩)
       clear q1 q2
       gi_wp2
       refine ⟨by simp, .inl ⟨_, _, rfl, run_takeDeferred q4, ?_⟩⟩
       have HK : OwnI (W9.putObj X.heap.size (.deferred none)) w.heap.size v (pls zs (rxOf t) (fun m => (g : Int) + (m : Int)) (zs.length + 1)) := (HQ.out.same fun k o hk ho => (World.putObj_heap_other (fun e => HQ.out.notRow q4 (fun _ _ _ h => by cases h) (by rw [← e]; exact hk))).trans ho).mono (by omega)
       refine ⟨_, results_tmp rfl _ _ _, ?_, q5.trans (below_put _ _ (by omega))⟩
       exact ⟨v, rfl, _, HK, HR.out⟩
     · exact h.elim
theorem endsM_any (t : T) (d : ND) (w : World) (htab : Tabs w) (hT : TR w (fun _ => True) t d.v) (hps : (E.pre t t).length ≤ 1000000) (hnb : ∀ p ∈ E.pre t t, E.NodeB p.1) (ao : Option Addr) (cap : Nat) (xs : List Int) (hx : RdC32 w ao xs) (hlen : xs.length ≤ 1000000) (hcap : xs.length ≤ cap) (f : Int) :
   Calls Tryz.prog 33 #[d.v, .slice ao xs.length cap, .int .i64 f] w fun e W' => (∃ v zs, e = .returned v ∧ OwnI W' w.heap.size v zs ∧ EndP t xs f zs) ∧ Below w.heap.size w W' := callsIn_wide.1 (endsM_in t d w htab hT hps hnb ao cap xs hx hlen hcap f)
end Go.Proofs.YtemanednddhfaaaGreatDoor
