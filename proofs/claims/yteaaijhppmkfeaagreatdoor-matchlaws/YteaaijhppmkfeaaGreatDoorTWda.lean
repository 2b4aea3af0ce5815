/- Ends, Begins, known of law 8; nodes made of nodes. -/
import Derived.BigQuiet
import Derived.Maps.OwnIn
import Derived.Test.YteaaijhppmkfeaaGreatDoorTAlm
import Derived.Test.YteaaijhppmkfeaaGreatDoorTPln
import Derived.Test.YteaaijhppmkfeaaGreatDoorTPar
namespace Go.Proofs.YteaaijhppmkfeaaGreatDoor
section
open Go.RowKit Go.Shelf
open E (Ps Rx T rxOf Vp)
attribute [local go_sem] Oper.semAt_some
set_option maxRecDepth 100000 in
set_option maxHeartbeats 1000000 in
theorem within_any (ao : Option Addr) (n cap : Nat) (p : Int) (w : World) : Calls Tryz.prog 63 #[.slice ao n cap, .int .i64 p] w fun e w' => U.Told (0 ≤ p ∧ p ≤ (n : Int)) e ∧ w' = w := by
 go_enter Tryz.func63, Tryz.ntmps63
 by_cases h0 : 0 ≤ p
 · go_wp2
   go_ret
   exact ⟨⟨_, rfl, by simp [h0]⟩, rfl⟩
 · have h0' : p < 0 := by omega
   go_wp2
   go_ret
   exact ⟨U.told_no (fun h => by omega), rfl⟩
set_option maxRecDepth 100000 in
theorem cut_from8 {w : World} {ao : Option Addr} {cap : Nat} {xs : List Int} (hx : RdC32 w ao xs) (f : Nat) (hf : f ≤ xs.length) (hc : xs.length ≤ cap) : ∃ ao', (∀ wx : World, (Instr.slice 44 (.slice ao xs.length cap) (some (.int .i64 (f : Int))) none none).run Tryz.prog wx = .ok (.slice ao' (xs.drop f).length (cap - f)) wx) ∧ RdC32 w ao' (xs.drop f) := by
 refine ⟨if cap = f then ao else ao.map (·.add (f * 1)), fun wx => ?_, fun i hi => ?_⟩
 · have h := run_slice_l (P := Tryz.prog) (w := wx) 44 ao xs.length cap Tryz.underlying44 .i64 (f : Int) (by omega) (by omega)
   rw [h, elemSize44]
   simp only [Result.andThen, sliced, Int.toNat_natCast, List.length_drop]
 · rw [List.length_drop] at hi
   obtain ⟨b, off, e, h1⟩ := hx (f + i) (by omega)
   rw [if_neg (by omega), e]
   refine ⟨b, off + f, by simp [Addr.add], ?_⟩
   rw [show off + f + i = off + (f + i) by omega, h1]
   simp
set_option maxRecDepth 100000 in
theorem cut_to8 {w : World} {ao : Option Addr} {cap : Nat} {xs : List Int} (hx : RdC32 w ao xs) (f : Nat) (hf : f ≤ xs.length) (hc : xs.length ≤ cap) : ∃ ao', (∀ wx : World, (Instr.slice 44 (.slice ao xs.length cap) none (some (.int .i64 (f : Int))) none).run Tryz.prog wx = .ok (.slice ao' (xs.take f).length (cap - 0)) wx) ∧ RdC32 w ao' (xs.take f) := by
 refine ⟨if cap = 0 then ao else ao.map (·.add (0 * 1)), fun wx => ?_, fun i hi => ?_⟩
 · have h := run_slice_h (P := Tryz.prog) (w := wx) 44 ao xs.length cap Tryz.underlying44 .i64 (f : Int) (by omega) (by omega)
   rw [h, elemSize44]
   simp only [Result.andThen, sliced, Int.toNat_natCast, List.length_take, Nat.sub_zero, Nat.min_eq_left hf]
 · rw [List.length_take] at hi
   obtain ⟨b, off, e, h1⟩ := hx i (by omega)
   rw [if_neg (by omega), e]
   exact ⟨b, off, by simp [Addr.add], by rw [h1]; simp⟩
theorem Rcl.slf {w : World} {ρ : Operand → Value} {o : Oper} {x y : Operand} {ao : Option Addr} {n c : Nat} {vy v : Value} (hop : o.op = .slice 44 x (some y) none none) (hx : ρ x = .slice ao n c) (hy : ρ y = vy) (h : (Instr.slice 44 (.slice ao n c) (some vy) none none).run Tryz.prog w = .ok v w) : (execOp ρ o).run Tryz.prog w = .ok (.value v) w := by
 obtain ⟨dst, op, type, pos, after, guard⟩ := o
 simp only at hop
 subst hop
 simp [execOp, hx, hy, Instr.sliceAt, h, Result.andThen]
theorem Rcl.slt {w : World} {ρ : Operand → Value} {o : Oper} {x y : Operand} {ao : Option Addr} {n c : Nat} {vy v : Value} (hop : o.op = .slice 44 x none (some y) none) (hx : ρ x = .slice ao n c) (hy : ρ y = vy) (h : (Instr.slice 44 (.slice ao n c) none (some vy) none).run Tryz.prog w = .ok v w) : (execOp ρ o).run Tryz.prog w = .ok (.value v) w := by
 obtain ⟨dst, op, type, pos, after, guard⟩ := o
 simp only at hop
 subst hop
 simp [execOp, hx, hy, Instr.sliceAt, h, Result.andThen]
theorem Rcl.mvE {w : World} {ρ : Operand → Value} {o : Oper} {x : Operand} {v : Value} (hop : o.op = .move x) (hx : ρ x = v) : (execOp ρ o).run Tryz.prog w = .ok (.value v) w := by
 obtain ⟨dst, op, type, pos, after, guard⟩ := o
 simp only at hop
 subst hop
 simp [execOp, hx]
def OwnI (w : World) (B : Nat) (v : Value) (zs : List Int) : Prop := w.ownsRow B 3 1 v zs.length (zs.map (Value.int .i64))
theorem ownI_nil (w : World) (B : Nat) : OwnI w B (.slice none 0 0) [] := World.ownsRow_nil w _ _ _
theorem OwnI.same {w w' : World} {B : Nat} {v : Value} {ss : List Int} (h : OwnI w B v ss) (hs : ∀ (g : Nat) (o : Obj), v.ownBlock = some g → w.heap[g]? = some o → w'.heap[g]? = some o) : OwnI w' B v ss := by
 obtain ⟨h1, h2 | ⟨g, cap, cur, rfl, h3, h4, h5⟩⟩ := h
 · exact ⟨h1, .inl h2⟩
 · exact ⟨h1, .inr ⟨g, cap, cur, rfl, h3, hs g _ rfl h4, h5⟩⟩
theorem OwnI.lt {w : World} {B : Nat} {v : Value} {ss : List Int} (h : OwnI w B v ss) {g : Nat} (hg : v.ownBlock = some g) : g < w.heap.size ∧ B ≤ g := by
 obtain ⟨_, ⟨rfl, _⟩ | ⟨g', cap, cur, rfl, h3, h4, _⟩⟩ := h
 · cases hg
 · cases hg
   exact ⟨(Array.getElem?_eq_some_iff.1 h4).1, h3⟩
def IB (B pb : Nat) (ss : List Int) (A : World) : Prop := ∃ v, A.heap[pb]? = some (.cells #[v] 46) ∧ OwnI A B v ss
theorem IB.ow {B pb : Nat} {ss : List Int} {A : World} (h : IB B pb ss A) {k : Nat} (ho : Ow pb A k) : k < A.heap.size ∧ B ≤ k := by
 obtain ⟨v, h1, h2⟩ := h
 obtain ⟨v', t, f, h3, h4⟩ := ho
 rw [h1] at h3
 cases h3
 exact h2.lt h4
theorem IB.keep {B pb n : Nat} {ss : List Int} {A A' : World} (h : IB B pb ss A) (hk : KpO pb n A A') (hp : pb < n) : IB B pb ss A' := by
 obtain ⟨v, h1, h2⟩ := h
 refine ⟨v, (hk.below.block pb hp).trans h1, h2.same fun g o hv hg => (hk.own g (Array.getElem?_eq_some_iff.1 hg).1 ⟨v, _, _, h1, hv⟩).trans hg⟩
theorem IB.put {B pb x : Nat} {ss : List Int} {A : World} (h : IB B pb ss A) (hb : pb ≠ x) (hx : ¬ Ow pb A x) (o' : Obj) : IB B pb ss (A.putObj x o') := by
 obtain ⟨v, h1, h2⟩ := h
 refine ⟨v, (World.putObj_heap_other hb).trans h1, h2.same fun g o hv hg => (World.putObj_heap_other ?_).trans hg⟩
 rintro rfl
 exact hx ⟨v, _, _, h1, hv⟩
theorem info3N : (Tryz.prog.info? 3).map (fun i => (i.zero, i.size, i.bytes)) = some (some (.int .i64 0), 1, 8) := by kernel_rfl
def pls (zs : List Int) (x : Rx) (g : Nat → Int) (m : Nat) : List Int := ((List.range m).filter (hit zs x)).map g
theorem pls_succ (zs : List Int) (x : Rx) (g : Nat → Int) (m : Nat) : pls zs x g (m + 1) = pls zs x g m ++ if hit zs x m then [g m] else [] := by
 unfold pls
 rw [List.range_succ, List.filter_append, List.map_append]
 cases h : hit zs x m <;> simp [h]
theorem pls_le (zs : List Int) (x : Rx) (g : Nat → Int) (m : Nat) : (pls zs x g m).length ≤ m := by
 unfold pls
 rw [List.length_map]
 exact Nat.le_trans (List.length_filter_le _ _) (by simp)
theorem ib_app {A1 w1 : World} {B pb : Nat} {ss : List Int} {s : Int} {v v' : Value} {tmp : Obj} (hpB : pb < B) (hBA : B ≤ A1.heap.size) (h1 : A1.heap[pb]? = some (.cells #[v] 46)) (ho : OwnI A1 B v ss)
   (hown : w1.ownsRow B 3 1 v' (ss.length + 1) (ss.map (Value.int .i64) ++ [.int .i64 s])) (hg : (A1.alloc tmp).grownBy w1 v.ownBlock) (hat : v'.ownBlock = v.ownBlock ∨ v'.ownBlock = some (A1.alloc tmp).heap.size) :
   w1.heap[pb]? = some (.cells #[v] 46) ∧ IB B pb (ss ++ [s]) (w1.setCell ⟨pb, 0, none⟩ v') ∧ (∀ k, k ≠ pb → k < A1.heap.size → ¬ Ow pb A1 k → (w1.setCell ⟨pb, 0, none⟩ v').heap[k]? = A1.heap[k]?) ∧ (∀ k, k < A1.heap.size → Ow pb (w1.setCell ⟨pb, 0, none⟩ v') k → Ow pb A1 k) ∧ A1.heap.size ≤ (w1.setCell ⟨pb, 0, none⟩ v').heap.size ∧ (w1.setCell ⟨pb, 0, none⟩ v').os = A1.os ∧ (w1.setCell ⟨pb, 0, none⟩ v').tape = A1.tape ∧ (w1.setCell ⟨pb, 0, none⟩ v').output = A1.output := by
 have hk : ∀ k, k < A1.heap.size → ¬ Ow pb A1 k → w1.heap[k]? = A1.heap[k]? := fun k hk hn => (hg.block k (by simp; omega) (fun e => hn ⟨v, _, _, h1, e.symm⟩)).trans (Below.heap_alloc _ _ _ hk)
 have hpn : ¬ Ow pb A1 pb := fun h => by
   obtain ⟨v2, t, f, h3, h4⟩ := h
   rw [h1] at h3
   cases h3
   have := (ho.lt h4).2
   omega
 have hp1 := (hk pb (by omega) hpn).trans h1
 have hne : ∀ k, k ≠ pb → (w1.setCell ⟨pb, 0, none⟩ v').heap[k]? = w1.heap[k]? := fun k hk => Below.heap_setCell _ _ _ _ hk
 have hpb' : (w1.setCell ⟨pb, 0, none⟩ v').heap[pb]? = some (.cells #[v'] 46) := by simp [World.setCell, Array.getElem?_modify, hp1]
 have hs1 : A1.heap.size ≤ w1.heap.size := Nat.le_trans (by simp) hg.size
 have hsz : (w1.setCell ⟨pb, 0, none⟩ v').heap.size = w1.heap.size := by simp [World.setCell]
 have ho1 : OwnI w1 B v' (ss ++ [s]) := by
   unfold OwnI
   rw [List.length_append, List.map_append]
   exact hown
 refine ⟨hp1, ⟨v', hpb', ho1.same fun g o hv hg' => (hne g (by have := (ho1.lt hv).2; omega)).trans hg'⟩, fun k h2 h3 h4 => (hne k h2).trans (hk k h3 h4), fun k h2 ho' => ?_, by omega, hg.os, hg.tape, hg.output⟩
 obtain ⟨v2, t, f, h3, h4⟩ := ho'
 rw [hpb'] at h3
 cases h3
 rcases hat with h5 | h5
 · exact ⟨v, _, _, h1, h5 ▸ h4⟩
 · rw [h5] at h4
   simp at h4
   omega
end
section
open Go.RowKit Go.Shelf
open E (Ps Rx T rxOf Vp)
attribute [local go_sem] Oper.semAt_some
def EndP (t : T) (xs : List Int) (f : Int) (zs : List Int) : Prop :=
 ((0 ≤ f ∧ f ≤ (xs.length : Int) ∧ E.PlainP t) ∧ zs = pls (xs.drop f.toNat) (rxOf t) (fun m => f + (m : Int)) (xs.length - f.toNat + 1)) ∨ (¬ (0 ≤ f ∧ f ≤ (xs.length : Int) ∧ E.PlainP t) ∧ zs = [])
theorem OwnI.mono {w : World} {B C : Nat} {v : Value} {ss : List Int} (h : OwnI w B v ss) (hc : C ≤ B) : OwnI w C v ss := by
 obtain ⟨h1, h2 | ⟨g, cap, cur, rfl, h3, h4, h5⟩⟩ := h
 · exact ⟨h1, .inl h2⟩
 · exact ⟨h1, .inr ⟨g, cap, cur, rfl, Nat.le_trans hc h3, h4, h5⟩⟩
theorem OwnI.alloc {w : World} {B : Nat} {v : Value} {ss : List Int} (h : OwnI w B v ss) (o : Obj) : OwnI (w.alloc o) B v ss :=
 h.same fun _ _ _ hg => (Below.heap_alloc _ _ _ (Array.getElem?_eq_some_iff.1 hg).1).trans hg
theorem OwnI.notRow {w : World} {B : Nat} {v : Value} {ss : List Int} (h : OwnI w B v ss) {k : Nat} {o : Obj} (hk : w.heap[k]? = some o) (hn : ∀ c t f, o ≠ .cells c t f) : v.ownBlock ≠ some k := by
 intro e
 obtain ⟨_, ⟨rfl, _⟩ | ⟨g', cap, cur, rfl, h5, h6, _⟩⟩ := h
 · cases e
 · cases e
   rw [hk] at h6
   cases h6
   exact hn _ _ _ rfl
theorem IB.notRow {B pb : Nat} {ss : List Int} {A : World} (h : IB B pb ss A) {k : Nat} {o : Obj} (hk : A.heap[k]? = some o) (hn : ∀ c t f, o ≠ .cells c t f) : ¬ Ow pb A k := by
 rintro ⟨v', t, f, h3, h4⟩
 obtain ⟨v, h1, h2⟩ := h
 rw [h1] at h3
 cases h3
 exact h2.notRow hk hn h4
set_option maxRecDepth 100000 in
set_option maxHeartbeats 4000000 in
theorem endsM_in (t : T) (d : ND) (w : World) (htab : Tabs w) (hT : TR w (fun _ => True) t d.v) (hps : (E.pre t t).length ≤ 1000000) (hnb : ∀ p ∈ E.pre t t, E.NodeB p.1) (ao : Option Addr) (cap : Nat) (xs : List Int) (hx : RdC32 w ao xs) (hlen : xs.length ≤ 1000000) (hcap : xs.length ≤ cap) (f : Int) :
   CallsIn Fence.wide 9 Tryz.prog 32 #[d.v, .slice ao xs.length cap, .int .i64 f] w fun e W' => (∃ v zs, e = .returned v ∧ OwnI W' w.heap.size v zs ∧ EndP t xs f zs) ∧ Below w.heap.size w W' := by
 have hpl := fun W hb => plain_any t d W (htab.later hb) (TR.later (fun k hk => Below.block hb k hk) _ hT) hps hnb
 have hwi := within_any ao xs.length cap f
 unfold ND.v at hpl ⊢
 refine callsIn_of_wp_marks Tryz.func32 rfl trivial ?_ rfl
 simp only [Tryz.ntmps32, List.size_toArray, List.length_cons, List.length_nil, Nat.reduceAdd, Nat.reduceSub, Array.replicate_succ, Array.replicate_zero, List.push_toArray, List.append_toArray, List.nil_append, List.cons_append]
 have a1 := al1 w (.cells #[.int .i64 d.k, .int .i64 d.a, .slice d.sp d.sl d.sc, .string d.n, .slice d.kp d.kl d.kc] 26)
 have n1 := heap_alloc_new w (.cells #[.int .i64 d.k, .int .i64 d.a, .slice d.sp d.sl d.sc, .string d.n, .slice d.kp d.kl d.kc] 26)
 have a2 := al1 (w.alloc (.cells #[.int .i64 d.k, .int .i64 d.a, .slice d.sp d.sl d.sc, .string d.n, .slice d.kp d.kl d.kc] 26)) (.cells #[.int .i64 f] 3)
 have n2 := heap_alloc_new (w.alloc (.cells #[.int .i64 d.k, .int .i64 d.a, .slice d.sp d.sl d.sc, .string d.n, .slice d.kp d.kl d.kc] 26)) (.cells #[.int .i64 f] 3)
 have s2 : ((w.alloc (.cells #[.int .i64 d.k, .int .i64 d.a, .slice d.sp d.sl d.sc, .string d.n, .slice d.kp d.kl d.kc] 26)).alloc (.cells #[.int .i64 f] 3)).heap.size = w.heap.size + 2 := by simp
 rw [World.size_alloc] at n2
 have m1 := (a2.block w.heap.size (by simp)).trans n1
 have b3 := nx a1 a2
 have hp := hpl _ b3
 have hw := hwi ((w.alloc (.cells #[.int .i64 d.k, .int .i64 d.a, .slice d.sp d.sl d.sc, .string d.n, .slice d.kp d.kl d.kc] 26)).alloc (.cells #[.int .i64 f] 3))
 clear hpl n1 a1 a2 hwi
 gi_wp2_with fail
 refine ⟨trivial, (callsIn_wide.2 hw).mono ?_⟩
 rintro e W0 ⟨⟨b, rfl, hb⟩, rfl⟩
 have HB := hide hb
 clear hw hb
 cases b with
 | false =>
   have hI : Hid (¬ (0 ≤ f ∧ f ≤ (xs.length : Int))) := hide (fun h => by have := HB.out.2 h; cases this)
   clear HB
   gi_wp2
   refine ⟨trivial, ?_⟩
   gi_wp2
   exact ⟨_, results_tmp rfl _ _ _, ⟨_, [], rfl, ownI_nil _ _, .inr ⟨fun h => hI.out ⟨h.1, h.2.1⟩, rfl⟩⟩, b3⟩
 | true =>
   have hI := hide (HB.out.1 rfl)
   clear HB
   gi_wp2_with fail
   refine ⟨trivial, (callsIn_wide.2 hp).mono ?_⟩
   rintro e W1 ⟨⟨b, rfl, hb⟩, hb1⟩
   have hs1 := hb1.size
   rw [s2] at hs1
   have x1 := (hb1.block w.heap.size (by omega)).trans m1
   have x2 := (hb1.block (w.heap.size + 1) (by omega)).trans n2
   have bW := nx b3 hb1
   have HB := hide hb
   clear hp hb hb1 m1 n2 b3 s2
   cases b with
   | false =>
     have hP : Hid (¬ E.PlainP t) := hide (fun h => by have := HB.out.2 h; cases this)
     clear HB x1 x2
     gi_wp2
     exact ⟨_, results_tmp rfl _ _ _, ⟨_, [], rfl, ownI_nil _ _, .inr ⟨fun h => hP.out h.2.2, rfl⟩⟩, bW⟩
   | true =>
     have hP := hide (HB.out.1 rfl)
     clear HB
     obtain ⟨g, hg⟩ : ∃ g : Nat, f = (g : Int) := ⟨f.toNat, by have := hI.out.1; omega⟩
     have hgl : g ≤ xs.length := by have := hI.out.2; omega
     subst hg
     clear hI
     obtain ⟨ac, hac, hxc⟩ := cut_from8 hx g hgl hcap
     have hll : (xs.drop g).length ≤ 1000000 := by rw [List.length_drop]; omega
     gi_wp2
     have a3 := al1 W1 (.cells #[.slice none 0 0] 46)
     have n3 := heap_alloc_new W1 (.cells #[.slice none 0 0] 46)
     have s3 : (W1.alloc (.cells #[.slice none 0 0] 46)).heap.size = W1.heap.size + 1 := by simp
     have z1 := (a3.block w.heap.size (by omega)).trans x1
     have z2 := (a3.block (w.heap.size + 1) (by omega)).trans x2
     have bZ := bW.trans (a3.mono (show w.heap.size ≤ W1.heap.size by omega))
     obtain ⟨Z, hZ⟩ : ∃ Z, W1.alloc (.cells #[.slice none 0 0] 46) = Z := ⟨_, rfl⟩
     rw [hZ] at a3 n3 s3 z1 z2 bZ ⊢
     clear hZ x1 x2 a3
     have kx : ∀ w', Below (W1.heap.size + 1) Z.drew w' → w'.heap[w.heap.size]? = some (.cells #[.int .i64 d.k, .int .i64 d.a, .slice d.sp d.sl d.sc, .string d.n, .slice d.kp d.kl d.kc] 26) ∧ w'.heap[w.heap.size + 1]? = some (.cells #[.int .i64 (g : Int)] 3) := fun w' hb => ⟨(hb.block _ (by omega)).trans z1, (hb.block _ (by omega)).trans z2⟩
     refine noPan (wpIn_wide.2 ?_)
     refine Reg.start (B := W1.heap.size + 1) (by kernel_rfl) ?_
     refine Reg.take (fun _ _ _ _ _ h => h) 0 _ 18 (.agg #[.int .i64 d.k, .int .i64 d.a, .slice d.sp d.sl d.sc, .string d.n, .slice d.kp d.kl d.kc]) rfl (by kernel_rfl) (by kernel_rfl) (by kernel_rfl) rfl (by kernel_rfl) (by kernel_rfl) (fun w' hb => Reg.ldN rfl rfl (kx w' hb).1) ?_
     refine Reg.take (fun _ _ _ _ _ h => h) 1 _ 19 (.slice ao xs.length cap) rfl (by kernel_rfl) (by kernel_rfl) (by kernel_rfl) rfl (by kernel_rfl) (by kernel_rfl) (fun w' hb => Rcl.mvE rfl rfl) ?_
     refine Reg.take (fun _ _ _ _ _ h => h) 2 _ 20 (.int .i64 (g : Int)) rfl (by kernel_rfl) (by kernel_rfl) (by kernel_rfl) rfl (by kernel_rfl) (by kernel_rfl) (fun w' hb => Reg.ldS rfl rfl (by simp [World.cell?, (kx w' hb).2]) (Tryz.isAgg3 _)) ?_
     refine Reg.take (fun _ _ _ _ _ h => h) 3 _ 21 (.slice ac (xs.drop g).length (cap - g)) rfl (by kernel_rfl) (by kernel_rfl) (by kernel_rfl) rfl (by kernel_rfl) (by kernel_rfl) (fun w' hb => Rcl.slf rfl rfl rfl (hac w')) ?_
     refine Reg.call 4 _ 22 67 _ _ #[.slice ac (xs.drop g).length (cap - g)] rfl (by kernel_rfl) rfl (by kernel_rfl) (by kernel_rfl) rfl (by kernel_rfl) (by kernel_rfl) (all_make ac (xs.drop g).length (cap - g) Z.drew) ?_
     rintro e w4 ⟨rfl, rfl⟩
     have hz : Z.drew.heap.size = W1.heap.size + 1 := s3
     rw [hz]
     have y0 := heap_alloc_new Z.drew (.cells #[.slice ac (xs.drop g).length (cap - g)] 44)
     have yb := al1 Z.drew (.cells #[.slice ac (xs.drop g).length (cap - g)] 44)
     have ys : (Z.drew.alloc (.cells #[.slice ac (xs.drop g).length (cap - g)] 44)).heap.size = W1.heap.size + 2 := by simp [s3]
     rw [show Z.drew.heap.size = W1.heap.size + 1 from s3] at y0 yb
     refine ⟨_, W1.heap.size + 1, rfl, Nat.le_refl _, yb, ?_⟩
     obtain ⟨Y, hY0⟩ : ∃ Y, Z.drew.alloc (.cells #[.slice ac (xs.drop g).length (cap - g)] 44) = Y := ⟨_, rfl⟩
     rw [hY0] at y0 yb ys ⊢
     have hlm := lens_make 66 99 (W1.heap.size + 1) d Y
     unfold ND.v at hlm
     refine Reg.call 5 _ 23 65 _ _ #[.agg #[.int .i64 d.k, .int .i64 d.a, .slice d.sp d.sl d.sc, .string d.n, .slice d.kp d.kl d.kc], .func (.func 66) #[] #[], .func (.func 99) #[] #[.pointer (some ⟨W1.heap.size + 1, 0, none⟩)]] rfl (by kernel_rfl) rfl (by kernel_rfl) (by kernel_rfl) rfl (by kernel_rfl) (by kernel_rfl) hlm ?_
     rintro e w5 ⟨rfl, rfl⟩
     clear hlm hY0 kx
     have v1 := al1 Y (.cells #[.int .i64 d.k, .int .i64 d.a, .slice d.sp d.sl d.sc, .string d.n, .slice d.kp d.kl d.kc] 26)
     have u1 := heap_alloc_new Y (.cells #[.int .i64 d.k, .int .i64 d.a, .slice d.sp d.sl d.sc, .string d.n, .slice d.kp d.kl d.kc] 26)
     have v2 := al1 (Y.alloc (.cells #[.int .i64 d.k, .int .i64 d.a, .slice d.sp d.sl d.sc, .string d.n, .slice d.kp d.kl d.kc] 26)) (.cells #[.func (.func 66) #[] #[]] 102)
     have u2 := heap_alloc_new (Y.alloc (.cells #[.int .i64 d.k, .int .i64 d.a, .slice d.sp d.sl d.sc, .string d.n, .slice d.kp d.kl d.kc] 26)) (.cells #[.func (.func 66) #[] #[]] 102)
     have v3 := al1 ((Y.alloc (.cells #[.int .i64 d.k, .int .i64 d.a, .slice d.sp d.sl d.sc, .string d.n, .slice d.kp d.kl d.kc] 26)).alloc (.cells #[.func (.func 66) #[] #[]] 102)) (.cells #[.func (.func 99) #[] #[.pointer (some ⟨W1.heap.size + 1, 0, none⟩)]] 104)
     have u3 := heap_alloc_new ((Y.alloc (.cells #[.int .i64 d.k, .int .i64 d.a, .slice d.sp d.sl d.sc, .string d.n, .slice d.kp d.kl d.kc] 26)).alloc (.cells #[.func (.func 66) #[] #[]] 102)) (.cells #[.func (.func 99) #[] #[.pointer (some ⟨W1.heap.size + 1, 0, none⟩)]] 104)
     rw [World.size_alloc] at u2
     rw [World.size_alloc, World.size_alloc] at u3
     have e1 := ((nx v2 v3).block Y.heap.size (by simp)).trans u1
     have e2 := (v3.block (Y.heap.size + 1) (by simp)).trans u2
     have vb := nx v1 (nx v2 v3)
     have e0 := (vb.block (W1.heap.size + 1) (by omega)).trans y0
     have sX : (((Y.alloc (.cells #[.int .i64 d.k, .int .i64 d.a, .slice d.sp d.sl d.sc, .string d.n, .slice d.kp d.kl d.kc] 26)).alloc (.cells #[.func (.func 66) #[] #[]] 102)).alloc (.cells #[.func (.func 99) #[] #[.pointer (some ⟨W1.heap.size + 1, 0, none⟩)]] 104)).heap.size = Y.heap.size + 3 := by simp
     have vb1 := yb.trans (vb.mono (show W1.heap.size + 1 ≤ Y.heap.size by omega))
     refine ⟨_, W1.heap.size + 1, rfl, Nat.le_refl _, vb.mono (by omega), ?_⟩
     obtain ⟨X, hX⟩ : ∃ X, ((Y.alloc (.cells #[.int .i64 d.k, .int .i64 d.a, .slice d.sp d.sl d.sc, .string d.n, .slice d.kp d.kl d.kc] 26)).alloc (.cells #[.func (.func 66) #[] #[]] 102)).alloc (.cells #[.func (.func 99) #[] #[.pointer (some ⟨W1.heap.size + 1, 0, none⟩)]] 104) = X := ⟨_, rfl⟩
     rw [hX] at e1 e2 u3 e0 sX vb vb1 ⊢
     refine Reg.done (by kernel_rfl) ?_
     simp only [NoPan, Reg.ov, Act.put, List.setIfInBounds_toArray, List.set_cons_succ, List.set_cons_zero]
     rw [show Y.heap.size + 1 + 1 = Y.heap.size + 2 from rfl] at u3
     rw [ys] at e1 e2 u3 sX ⊢
     have xb1 := (vb1.block (w.heap.size + 1) (show w.heap.size + 1 < W1.heap.size + 1 by omega)).trans z2
     have xb3 := (vb1.block W1.heap.size (show W1.heap.size < W1.heap.size + 1 by omega)).trans n3
     have bX : Below w.heap.size w X := bZ.drew.trans (vb1.mono (show w.heap.size ≤ W1.heap.size + 1 by omega))
     have sX2 : W1.heap.size + 5 ≤ X.heap.size := by omega
     clear hX v1 v2 v3 u1 u2 vb vb1 yb y0 sX ys n3 z1 z2
     gi_wp2
     refine enter3 (gf := 95) (lb := #[.pointer (some ⟨W1.heap.size + 2 + 1, 0, none⟩), .pointer (some ⟨W1.heap.size + 2, 0, none⟩), .pointer (some ⟨W1.heap.size + 2 + 2, 0, none⟩)]) rfl (enters_of Tryz.func95 (by kernel_rfl) rfl) ?_
     intro r We hr hrec hdef hszE hbE
     have bE := bX.trans (hbE.mono (by omega))
     have k1 := (hbE.block (w.heap.size + 1) (by omega)).trans xb1
     have k3 := (hbE.block W1.heap.size (by omega)).trans xb3
     have hsl : Hid ((xs.drop g).length = xs.length - g) := hide (List.length_drop)
     obtain ⟨zs, hzs⟩ : ∃ zs, xs.drop g = zs := ⟨_, rfl⟩
     rw [hzs] at hll hsl hxc e0
     have ib0 : IB (W1.heap.size + 1) W1.heap.size ((pls zs (rxOf t) (fun m => (g : Int) + (m : Int))) 0) We := ⟨_, k3, by simpa [pls] using ownI_nil We (W1.heap.size + 1)⟩
     refine (lens66_in 8 (by omega) w (rxOf t) d zs (W1.heap.size + 1) W1.heap.size (W1.heap.size + 2 + 1) (W1.heap.size + 2) (W1.heap.size + 2 + 2) (W1.heap.size + 1) (X.heap.size + 1) _ (fwd_mk t hP.out.vp d w hT) (pts_all hxc hll (W1.heap.size + 1)) hll (by omega) (by omega) (by omega) (by omega)
       (fun m A => IB (W1.heap.size + 1) W1.heap.size ((pls zs (rxOf t) (fun m => (g : Int) + (m : Int))) m) A ∧ A.heap[w.heap.size + 1]? = some (.cells #[.int .i64 (g : Int)] 3) ∧ A.heap[X.heap.size + 1]? = some (.loop r) ∧ A.heap[X.heap.size]? = some (.deferred (some [])) ∧ Below w.heap.size w A)
       (fun m A => False)
       We ((hbE.block _ (by omega)).trans e2) ((hbE.block _ (by omega)).trans e1) ((hbE.block _ (by omega)).trans u3) ((hbE.block _ (by omega)).trans e0) bE (by omega) (by omega) ?stable (fun _ _ _ h _ => h) ?skip ?lt ?own0 ?round ⟨ib0, k1, hrec.out, hdef.out, bE⟩).mono ?_
     case stable =>
       rintro m A A' ⟨j1, j2, j3, j4, j5⟩ hb
       exact ⟨j1.keep hb (by omega), (hb.below.block _ (by omega)).trans j2, (hb.below.block _ (by omega)).trans j3, (hb.below.block _ (by omega)).trans j4, j5.trans (hb.below.mono (by omega))⟩
     case skip =>
       rintro m A hm ⟨j1, j2, j3, j4, j5⟩
       refine ⟨?_, j2, j3, j4, j5⟩
       rw [pls_succ, hm]
       simpa using j1
     case lt =>
       rintro m A ⟨j1, _⟩ k ho
       exact (j1.ow ho).1
     case own0 =>
       rintro k _ ⟨v, t', f', h1, h2⟩
       rw [k3] at h1
       cases h1
       cases h2
     case round =>
       rintro m hm hhit A ⟨j1, j2, j3, j4, j5⟩ hle hBA
       have HP : Hid ((pls zs (rxOf t) (fun m => (g : Int) + (m : Int))) (m + 1) = (pls zs (rxOf t) (fun m => (g : Int) + (m : Int))) m ++ [(g : Int) + (m : Int)]) := hide (by rw [pls_succ, hhit]; rfl)
       have hlp := pls_le zs (rxOf t) (fun m => (g : Int) + (m : Int)) m
       obtain ⟨ss, hss⟩ : ∃ ss, (pls zs (rxOf t) (fun m => (g : Int) + (m : Int))) m = ss := ⟨_, rfl⟩
       rw [hss] at j1 HP hlp
       clear hss hhit
       obtain ⟨i0, hi0, hz0, hz1, hz2⟩ := info_parts info3N
       refine yield3 hr j3 rfl ?_
       gi_wp2
       have hl1 : X.heap.size + 1 < A.heap.size := (Array.getElem?_eq_some_iff.1 j3).1
       intro rb
       have hne : ∀ k, k ≠ X.heap.size + 1 → (A.putObj (X.heap.size + 1) (.loop rb)).heap[k]? = A.heap[k]? := fun k hk => World.putObj_heap_other hk
       have nl := j1.notRow j3 (fun _ _ _ h => by cases h)
       have kib := j1.put (show W1.heap.size ≠ X.heap.size + 1 by omega) nl (.loop rb)
       have k2 := (hne (w.heap.size + 1) (by omega)).trans j2
       have kr := hide (World.putObj_heap_same (w := A) (o := .loop rb) hl1)
       have ksz : (A.putObj (X.heap.size + 1) (.loop rb)).heap.size = A.heap.size := World.putObj_size
       have HNE := hide hne
       have kb : Hid (Below w.heap.size A (A.putObj (X.heap.size + 1) (.loop rb))) := hide (below_put _ _ (by omega))
       have kow : Hid (∀ k, Ow W1.heap.size (A.putObj (X.heap.size + 1) (.loop rb)) k ↔ Ow W1.heap.size A k) := hide (fun k => ⟨fun h => h.of (hne _ (by omega)), fun h => h.of (hne _ (by omega)).symm⟩)
       obtain ⟨A1, hA1⟩ : ∃ A1, A.putObj (X.heap.size + 1) (.loop rb) = A1 := ⟨_, rfl⟩
       rw [hA1] at kib k2 kr ksz HNE kb kow ⊢
       obtain ⟨v, k1, ko⟩ := kib
       have c1 : A1.cell? ⟨W1.heap.size, 0, none⟩ = some v := by simp [World.cell?, k1]
       have c2 : A1.cell? ⟨w.heap.size + 1, 0, none⟩ = some (.int .i64 (g : Int)) := by simp [World.cell?, k2]
       have HJ1 := hide j1
       have HJ2 := hide j2
       have HJ3 := hide j3
       have HJ4 := hide j4
       have HJ5 := hide j5
       have K1 := hide k1
       have K2 := hide k2
       have NL := hide nl
       have HS := hide ksz
       have kle : W1.heap.size + 1 ≤ A1.heap.size := by omega
       have kl2 : w.heap.size + 2 ≤ A1.heap.size := by omega
       clear hA1 hne j1 j2 j3 j4 j5 k1 k2 nl ksz
       gi_wp2_with (gi_at_builtin; refine wpListIn_append_own_at _ rfl _ _ 46 rfl (W1.heap.size + 1) 3 i0 (.int .i64 0) 1 8 Tryz.underlying46 hi0 hz0 hz1 hz2 rfl (by decide) v ss.length (ss.map (Value.int .i64)) rfl (ko.alloc _) ⟨A1.heap.size, 0, none⟩ 1 1 [.int .i64 ((g : Int) + (m : Int))] rfl rfl (cell_one_new _ _ _) (by simp [Value.oneCell']) (by unfold maxLen; omega) (by omega) (by simp; omega) ?_; intro v' w1 hown' hgrow _ hat; obtain ⟨g', cap', rfl⟩ := ownsRow_succ hown'; obtain ⟨hp1, hib, hkp, how, hsz, hos, htp, hou⟩ := ib_app (by omega) kle K1.out ko hown' hgrow hat; have hc1 : w1.cell? ⟨W1.heap.size, 0, none⟩ = some v := (by simp [World.cell?, hp1]); have hf1 : w1.frozen? ⟨W1.heap.size, 0, none⟩ = false := (by simp [World.frozen?, hp1]); have HIB := hide hib; have HKP := hide hkp; have HOW := hide how; have HSZ := hide hsz; have HOS := hide (And.intro hos (And.intro htp hou)); clear hib hkp how hsz hos htp hou hown' hgrow hat hp1 c1 c2)
       have fin : ∀ W4 : World, IB (W1.heap.size + 1) W1.heap.size (ss ++ [(g : Int) + (m : Int)]) W4 → (∀ k, k ≠ W1.heap.size → k < A1.heap.size → ¬ Ow W1.heap.size A1 k → W4.heap[k]? = A1.heap[k]?) → (∀ k, k < A1.heap.size → Ow W1.heap.size W4 k → Ow W1.heap.size A1 k) → A1.heap.size ≤ W4.heap.size → (W4.os = A1.os ∧ W4.tape = A1.tape ∧ W4.output = A1.output) →
           W4.heap[X.heap.size + 1]? = some (.loop rb) ∧ FrO W1.heap.size w.heap.size (W1.heap.size + 1) A (W4.putObj (X.heap.size + 1) (.loop r)) ∧ IB (W1.heap.size + 1) W1.heap.size ((pls zs (rxOf t) (fun m => (g : Int) + (m : Int))) (m + 1)) (W4.putObj (X.heap.size + 1) (.loop r)) ∧ (W4.putObj (X.heap.size + 1) (.loop r)).heap[w.heap.size + 1]? = some (.cells #[.int .i64 (g : Int)] 3) ∧ (W4.putObj (X.heap.size + 1) (.loop r)).heap[X.heap.size + 1]? = some (.loop r) ∧ (W4.putObj (X.heap.size + 1) (.loop r)).heap[X.heap.size]? = some (.deferred (some [])) ∧ Below w.heap.size w (W4.putObj (X.heap.size + 1) (.loop r)) := by
         intro W4 h1 h2 h3 h4 h5
         have hS := HS.out
         have nlA : ¬ Ow W1.heap.size A1 (X.heap.size + 1) := fun h => NL.out ((kow.out _).1 h)
         have m3 := (h2 (X.heap.size + 1) (by omega) (by omega) nlA).trans kr.out
         have hnp : ∀ k, k ≠ X.heap.size + 1 → (W4.putObj (X.heap.size + 1) (.loop r)).heap[k]? = W4.heap[k]? := fun k hk => World.putObj_heap_other hk
         have hsame : (W4.putObj (X.heap.size + 1) (.loop r)).heap[X.heap.size + 1]? = some (.loop r) := World.putObj_heap_same (Array.getElem?_eq_some_iff.1 m3).1
         have hall : ∀ k, k ≠ W1.heap.size → k < A.heap.size → ¬ Ow W1.heap.size A k → (W4.putObj (X.heap.size + 1) (.loop r)).heap[k]? = A.heap[k]? := fun k hk hk' ho => by
           by_cases he : k = X.heap.size + 1
           · rw [he, hsame]; exact HJ3.out.symm
           · rw [hnp k he, h2 k hk (by omega) (fun h => ho ((kow.out _).1 h))]
             exact HNE.out k he
         have hlow : ∀ k, k < W1.heap.size → ¬ Ow W1.heap.size A k := fun k hk ho => by
           have := (HJ1.out.ow ho).2
           omega
         have b9 : Below w.heap.size A (W4.putObj (X.heap.size + 1) (.loop r)) := ⟨h5.1.trans kb.out.os, h5.2.1.trans kb.out.tape, h5.2.2.trans kb.out.output, by rw [World.putObj_size]; omega, fun k hk => hall k (by omega) (by omega) (hlow k (by omega))⟩
         refine ⟨m3, ⟨b9.os, b9.tape, b9.output, b9.size, b9.block, fun k hk hk' ho => hall k (by omega) hk' ho, fun k hk ho => (kow.out _).1 (h3 k (by omega) (ho.of (hnp _ (by omega))))⟩, ?_, (hall _ (by omega) (by omega) (hlow _ (by omega))).trans HJ2.out, hsame, (hall _ (by omega) (by omega) (HJ1.out.notRow HJ4.out (fun _ _ _ h => by cases h))).trans HJ4.out, HJ5.out.trans b9⟩
         rw [HP.out]
         exact h1.put (by omega) (fun h => nlA (h3 _ (by omega) h)) _
       obtain ⟨f1, f2, f3, f4, f5, f6, f7⟩ := fin _ HIB.out HKP.out HOW.out HSZ.out HOS.out
       exact ⟨f1, rfl, f2, f3, f4, f5, f6, f7⟩
     rintro e W' ⟨hv, h⟩
     refine ⟨hv, ?_⟩
     rcases h with ⟨j1, j2, j3, j4, j5⟩ | ⟨_, _, h⟩
     · refine .inl ⟨j3, fun r' => ?_⟩
       have hnp : ∀ k, k ≠ X.heap.size + 1 → (W'.putObj (X.heap.size + 1) (.loop r')).heap[k]? = W'.heap[k]? := fun k hk => World.putObj_heap_other hk
       have q1 := j1.put (show W1.heap.size ≠ X.heap.size + 1 by omega) (j1.notRow j3 (fun _ _ _ h => by cases h)) (.loop r')
       have q4 := (hnp X.heap.size (by omega)).trans j4
       have q5 := j5.trans (below_put (n := w.heap.size) W' (.loop r') (show w.heap.size ≤ X.heap.size + 1 by omega))
       clear j1 j2 j3 j4 j5 hnp
       generalize W'.putObj (X.heap.size + 1) (.loop r') = W9 at *
       obtain ⟨v, q1, q2⟩ := q1
       have c1 : W9.cell? ⟨W1.heap.size, 0, none⟩ = some v := by simp [World.cell?, q1]
       have HQ := hide q2
       have HR : Hid (EndP t xs (g : Int) ((pls zs (rxOf t) (fun m => (g : Int) + (m : Int))) (zs.length + 1))) := hide (.inl ⟨⟨by omega, by omega, hP.out⟩, by rw [Int.toNat_natCast, hzs, hsl.out]⟩)
       clear q1 q2
       gi_wp2
       refine ⟨by simp, .inl ⟨_, _, rfl, run_takeDeferred q4, ?_⟩⟩
       have HK : OwnI (W9.putObj X.heap.size (.deferred none)) w.heap.size v ((pls zs (rxOf t) (fun m => (g : Int) + (m : Int))) (zs.length + 1)) := (HQ.out.same fun k o hk ho => (World.putObj_heap_other (fun e => HQ.out.notRow q4 (fun _ _ _ h => by cases h) (by rw [← e]; exact hk))).trans ho).mono (by omega)
       refine ⟨_, results_tmp rfl _ _ _, ?_, q5.trans (below_put _ _ (by omega))⟩
       exact ⟨v, rfl, _, HK, HR.out⟩
     · exact h.elim
theorem endsM_any (t : T) (d : ND) (w : World) (htab : Tabs w) (hT : TR w (fun _ => True) t d.v) (hps : (E.pre t t).length ≤ 1000000) (hnb : ∀ p ∈ E.pre t t, E.NodeB p.1) (ao : Option Addr) (cap : Nat) (xs : List Int) (hx : RdC32 w ao xs) (hlen : xs.length ≤ 1000000) (hcap : xs.length ≤ cap) (f : Int) :
   Calls Tryz.prog 32 #[d.v, .slice ao xs.length cap, .int .i64 f] w fun e W' => (∃ v zs, e = .returned v ∧ OwnI W' w.heap.size v zs ∧ EndP t xs f zs) ∧ Below w.heap.size w W' := callsIn_wide.1 (endsM_in t d w htab hT hps hnb ao cap xs hx hlen hcap f)
end
section
open Go.RowKit Go.Shelf
open E (Ps Rx T rxOf Vp)
attribute [local go_sem] Oper.semAt_some
def BegP (t : T) (xs : List Int) (f : Int) (zs : List Int) : Prop :=
 ((0 ≤ f ∧ f ≤ (xs.length : Int) ∧ E.PlainP t) ∧ zs = (pls (xs.take f.toNat).reverse (rxOf t).rev (fun m => f - (m : Int)) (f.toNat + 1)).reverse) ∨ (¬ (0 ≤ f ∧ f ≤ (xs.length : Int) ∧ E.PlainP t) ∧ zs = [])
theorem grownBy_ints {w : World} {g n : Nat} (d : Array Int) : w.grownBy («Sort».putRow (Value.int .i64) («Sort».ahead w n) g 0 d) (some g) := by
 unfold «Sort».putRow «Sort».mapBlock «Sort».ahead
 refine ⟨rfl, rfl, rfl, by simp, fun k hk hne => ?_⟩
 have hk' : g ≠ k := fun e => hne (by rw [e])
 simp [Array.getElem?_modify, hk']
theorem rev_row (w : World) (B : Nat) (v : Value) (ss : List Int) (ho : OwnI w B v ss) (hl : ss.length ≤ 10000000) : Calls Tryz.prog 71 #[v] w fun e w' => e = .returned (.tuple #[]) ∧ OwnI w' B v ss.reverse ∧ w.grownBy w' v.ownBlock := by
 by_cases hv : v = .slice none 0 0
 · subst hv
   have hs : ss = [] := by
     obtain ⟨_, ⟨_, h⟩ | ⟨g, cap, cur, e, _⟩⟩ := ho
     · exact List.eq_nil_of_length_eq_zero h
     · cases e
   subst hs
   refine (Any.slices_Reverse_int_empty lays112 none 0 w).mono ?_
   rintro e w' ⟨rfl, rfl⟩
   exact ⟨rfl, by simpa using ho, ⟨rfl, rfl, rfl, Nat.le_refl _, fun _ _ _ => rfl⟩⟩
 · obtain ⟨g, cap, rfl, hbg, hgl, hncap, hcm, _, hH⟩ := Lib.holds_of_ownsRow ho hv
   refine (Any.slices_Reverse_int lays112 g 0 cap ss w hH (by omega)).mono ?_
   rintro e w' ⟨rfl, q, rfl⟩
   refine ⟨rfl, ?_, ?_⟩
   · have hc := Lib.ownsRow_putRow (q := q) (k := ss.length) (ys := ss.reverse) ho (by simp) (Nat.le_refl _)
     unfold OwnI
     rw [List.length_reverse]
     have ht : ss.reverse.take ss.length = ss.reverse := List.take_of_length_le (by simp)
     rw [ht] at hc
     exact hc
   · exact grownBy_ints _
set_option maxRecDepth 100000 in
set_option maxHeartbeats 4000000 in
theorem begsM_in (t : T) (d : ND) (w : World) (htab : Tabs w) (hT : TR w (fun _ => True) t d.v) (hps : (E.pre t t).length ≤ 1000000) (hnb : ∀ p ∈ E.pre t t, E.NodeB p.1) (ao : Option Addr) (cap : Nat) (xs : List Int) (hx : RdC32 w ao xs) (hlen : xs.length ≤ 1000000) (hcap : xs.length ≤ cap) (f : Int) :
   CallsIn Fence.wide 9 Tryz.prog 35 #[d.v, .slice ao xs.length cap, .int .i64 f] w fun e W' => (∃ v zs, e = .returned v ∧ OwnI W' w.heap.size v zs ∧ BegP t xs f zs) ∧ Below w.heap.size w W' := by
 have hpl := fun W hb => plain_any t d W (htab.later hb) (TR.later (fun k hk => Below.block hb k hk) _ hT) hps hnb
 have hwi := within_any ao xs.length cap f
 unfold ND.v at hpl ⊢
 refine callsIn_of_wp_marks Tryz.func35 rfl trivial ?_ rfl
 simp only [Tryz.ntmps35, List.size_toArray, List.length_cons, List.length_nil, Nat.reduceAdd, Nat.reduceSub, Array.replicate_succ, Array.replicate_zero, List.push_toArray, List.append_toArray, List.nil_append, List.cons_append]
 have a1 := al1 w (.cells #[.int .i64 d.k, .int .i64 d.a, .slice d.sp d.sl d.sc, .string d.n, .slice d.kp d.kl d.kc] 26)
 have n1 := heap_alloc_new w (.cells #[.int .i64 d.k, .int .i64 d.a, .slice d.sp d.sl d.sc, .string d.n, .slice d.kp d.kl d.kc] 26)
 have a2 := al1 (w.alloc (.cells #[.int .i64 d.k, .int .i64 d.a, .slice d.sp d.sl d.sc, .string d.n, .slice d.kp d.kl d.kc] 26)) (.cells #[.int .i64 f] 3)
 have n2 := heap_alloc_new (w.alloc (.cells #[.int .i64 d.k, .int .i64 d.a, .slice d.sp d.sl d.sc, .string d.n, .slice d.kp d.kl d.kc] 26)) (.cells #[.int .i64 f] 3)
 have s2 : ((w.alloc (.cells #[.int .i64 d.k, .int .i64 d.a, .slice d.sp d.sl d.sc, .string d.n, .slice d.kp d.kl d.kc] 26)).alloc (.cells #[.int .i64 f] 3)).heap.size = w.heap.size + 2 := by simp
 rw [World.size_alloc] at n2
 have m1 := (a2.block w.heap.size (by simp)).trans n1
 have b3 := nx a1 a2
 have hp := hpl _ b3
 have hw := hwi ((w.alloc (.cells #[.int .i64 d.k, .int .i64 d.a, .slice d.sp d.sl d.sc, .string d.n, .slice d.kp d.kl d.kc] 26)).alloc (.cells #[.int .i64 f] 3))
 clear hpl n1 a1 a2 hwi
 gi_wp2_with fail
 refine ⟨trivial, (callsIn_wide.2 hw).mono ?_⟩
 rintro e W0 ⟨⟨b, rfl, hb⟩, rfl⟩
 have HB := hide hb
 clear hw hb
 cases b with
 | false =>
   have hI : Hid (¬ (0 ≤ f ∧ f ≤ (xs.length : Int))) := hide (fun h => by have := HB.out.2 h; cases this)
   clear HB
   gi_wp2
   refine ⟨trivial, ?_⟩
   gi_wp2
   exact ⟨_, results_tmp rfl _ _ _, ⟨_, [], rfl, ownI_nil _ _, .inr ⟨fun h => hI.out ⟨h.1, h.2.1⟩, rfl⟩⟩, b3⟩
 | true =>
   have hI := hide (HB.out.1 rfl)
   clear HB
   gi_wp2_with fail
   refine ⟨trivial, (callsIn_wide.2 hp).mono ?_⟩
   rintro e W1 ⟨⟨b, rfl, hb⟩, hb1⟩
   have hs1 := hb1.size
   rw [s2] at hs1
   have x1 := (hb1.block w.heap.size (by omega)).trans m1
   have x2 := (hb1.block (w.heap.size + 1) (by omega)).trans n2
   have bW := nx b3 hb1
   have HB := hide hb
   clear hp hb hb1 m1 n2 b3 s2
   cases b with
   | false =>
     have hP : Hid (¬ E.PlainP t) := hide (fun h => by have := HB.out.2 h; cases this)
     clear HB x1 x2
     gi_wp2
     exact ⟨_, results_tmp rfl _ _ _, ⟨_, [], rfl, ownI_nil _ _, .inr ⟨fun h => hP.out h.2.2, rfl⟩⟩, bW⟩
   | true =>
     have hP := hide (HB.out.1 rfl)
     clear HB
     obtain ⟨g, hg⟩ : ∃ g : Nat, f = (g : Int) := ⟨f.toNat, by have := hI.out.1; omega⟩
     have hgl : g ≤ xs.length := by have := hI.out.2; omega
     subst hg
     clear hI
     obtain ⟨ac, hac, hxc⟩ := cut_to8 hx g hgl hcap
     have hll : (xs.take g).length ≤ 1000000 := by rw [List.length_take]; omega
     gi_wp2
     have a3 := al1 W1 (.cells #[.slice none 0 0] 46)
     have n3 := heap_alloc_new W1 (.cells #[.slice none 0 0] 46)
     have s3 : (W1.alloc (.cells #[.slice none 0 0] 46)).heap.size = W1.heap.size + 1 := by simp
     have z1 := (a3.block w.heap.size (by omega)).trans x1
     have z2 := (a3.block (w.heap.size + 1) (by omega)).trans x2
     have bZ := bW.trans (a3.mono (show w.heap.size ≤ W1.heap.size by omega))
     obtain ⟨Z, hZ⟩ : ∃ Z, W1.alloc (.cells #[.slice none 0 0] 46) = Z := ⟨_, rfl⟩
     rw [hZ] at a3 n3 s3 z1 z2 bZ ⊢
     clear hZ x1 x2 a3
     have kx : ∀ w', Below (W1.heap.size + 1) Z.drew w' → w'.heap[w.heap.size]? = some (.cells #[.int .i64 d.k, .int .i64 d.a, .slice d.sp d.sl d.sc, .string d.n, .slice d.kp d.kl d.kc] 26) ∧ w'.heap[w.heap.size + 1]? = some (.cells #[.int .i64 (g : Int)] 3) := fun w' hb => ⟨(hb.block _ (by omega)).trans z1, (hb.block _ (by omega)).trans z2⟩
     refine noPan (wpIn_wide.2 ?_)
     refine Reg.start (B := W1.heap.size + 1) (by kernel_rfl) ?_
     refine Reg.take (fun _ _ _ _ _ h => h) 0 _ 18 (.agg #[.int .i64 d.k, .int .i64 d.a, .slice d.sp d.sl d.sc, .string d.n, .slice d.kp d.kl d.kc]) rfl (by kernel_rfl) (by kernel_rfl) (by kernel_rfl) rfl (by kernel_rfl) (by kernel_rfl) (fun w' hb => Reg.ldN rfl rfl (kx w' hb).1) ?_
     refine Reg.take (fun _ _ _ _ _ h => h) 1 _ 19 (.slice ao xs.length cap) rfl (by kernel_rfl) (by kernel_rfl) (by kernel_rfl) rfl (by kernel_rfl) (by kernel_rfl) (fun w' hb => Rcl.mvE rfl rfl) ?_
     refine Reg.take (fun _ _ _ _ _ h => h) 2 _ 20 (.int .i64 (g : Int)) rfl (by kernel_rfl) (by kernel_rfl) (by kernel_rfl) rfl (by kernel_rfl) (by kernel_rfl) (fun w' hb => Reg.ldS rfl rfl (by simp [World.cell?, (kx w' hb).2]) (Tryz.isAgg3 _)) ?_
     refine Reg.take (fun _ _ _ _ _ h => h) 3 _ 21 (.slice ac (xs.take g).length (cap - 0)) rfl (by kernel_rfl) (by kernel_rfl) (by kernel_rfl) rfl (by kernel_rfl) (by kernel_rfl) (fun w' hb => Rcl.slt rfl rfl rfl (hac w')) ?_
     refine Reg.call 4 _ 22 70 _ _ #[.slice ac (xs.take g).length (cap - 0)] rfl (by kernel_rfl) rfl (by kernel_rfl) (by kernel_rfl) rfl (by kernel_rfl) (by kernel_rfl) (back_make ac (xs.take g).length (cap - 0) Z.drew) ?_
     rintro e w4 ⟨rfl, rfl⟩
     have hz : Z.drew.heap.size = W1.heap.size + 1 := s3
     rw [hz]
     have y0 := heap_alloc_new Z.drew (.cells #[.slice ac (xs.take g).length (cap - 0)] 44)
     have yb := al1 Z.drew (.cells #[.slice ac (xs.take g).length (cap - 0)] 44)
     have ys : (Z.drew.alloc (.cells #[.slice ac (xs.take g).length (cap - 0)] 44)).heap.size = W1.heap.size + 2 := by simp [s3]
     rw [show Z.drew.heap.size = W1.heap.size + 1 from s3] at y0 yb
     refine ⟨_, W1.heap.size + 1, rfl, Nat.le_refl _, yb, ?_⟩
     obtain ⟨Y, hY0⟩ : ∃ Y, Z.drew.alloc (.cells #[.slice ac (xs.take g).length (cap - 0)] 44) = Y := ⟨_, rfl⟩
     rw [hY0] at y0 yb ys ⊢
     have hlm := lens_make 69 101 (W1.heap.size + 1) d Y
     unfold ND.v at hlm
     refine Reg.call 5 _ 23 65 _ _ #[.agg #[.int .i64 d.k, .int .i64 d.a, .slice d.sp d.sl d.sc, .string d.n, .slice d.kp d.kl d.kc], .func (.func 69) #[] #[], .func (.func 101) #[] #[.pointer (some ⟨W1.heap.size + 1, 0, none⟩)]] rfl (by kernel_rfl) rfl (by kernel_rfl) (by kernel_rfl) rfl (by kernel_rfl) (by kernel_rfl) hlm ?_
     rintro e w5 ⟨rfl, rfl⟩
     clear hlm hY0 kx
     have v1 := al1 Y (.cells #[.int .i64 d.k, .int .i64 d.a, .slice d.sp d.sl d.sc, .string d.n, .slice d.kp d.kl d.kc] 26)
     have u1 := heap_alloc_new Y (.cells #[.int .i64 d.k, .int .i64 d.a, .slice d.sp d.sl d.sc, .string d.n, .slice d.kp d.kl d.kc] 26)
     have v2 := al1 (Y.alloc (.cells #[.int .i64 d.k, .int .i64 d.a, .slice d.sp d.sl d.sc, .string d.n, .slice d.kp d.kl d.kc] 26)) (.cells #[.func (.func 69) #[] #[]] 102)
     have u2 := heap_alloc_new (Y.alloc (.cells #[.int .i64 d.k, .int .i64 d.a, .slice d.sp d.sl d.sc, .string d.n, .slice d.kp d.kl d.kc] 26)) (.cells #[.func (.func 69) #[] #[]] 102)
     have v3 := al1 ((Y.alloc (.cells #[.int .i64 d.k, .int .i64 d.a, .slice d.sp d.sl d.sc, .string d.n, .slice d.kp d.kl d.kc] 26)).alloc (.cells #[.func (.func 69) #[] #[]] 102)) (.cells #[.func (.func 101) #[] #[.pointer (some ⟨W1.heap.size + 1, 0, none⟩)]] 104)
     have u3 := heap_alloc_new ((Y.alloc (.cells #[.int .i64 d.k, .int .i64 d.a, .slice d.sp d.sl d.sc, .string d.n, .slice d.kp d.kl d.kc] 26)).alloc (.cells #[.func (.func 69) #[] #[]] 102)) (.cells #[.func (.func 101) #[] #[.pointer (some ⟨W1.heap.size + 1, 0, none⟩)]] 104)
     rw [World.size_alloc] at u2
     rw [World.size_alloc, World.size_alloc] at u3
     have e1 := ((nx v2 v3).block Y.heap.size (by simp)).trans u1
     have e2 := (v3.block (Y.heap.size + 1) (by simp)).trans u2
     have vb := nx v1 (nx v2 v3)
     have e0 := (vb.block (W1.heap.size + 1) (by omega)).trans y0
     have sX : (((Y.alloc (.cells #[.int .i64 d.k, .int .i64 d.a, .slice d.sp d.sl d.sc, .string d.n, .slice d.kp d.kl d.kc] 26)).alloc (.cells #[.func (.func 69) #[] #[]] 102)).alloc (.cells #[.func (.func 101) #[] #[.pointer (some ⟨W1.heap.size + 1, 0, none⟩)]] 104)).heap.size = Y.heap.size + 3 := by simp
     have vb1 := yb.trans (vb.mono (show W1.heap.size + 1 ≤ Y.heap.size by omega))
     refine ⟨_, W1.heap.size + 1, rfl, Nat.le_refl _, vb.mono (by omega), ?_⟩
     obtain ⟨X, hX⟩ : ∃ X, ((Y.alloc (.cells #[.int .i64 d.k, .int .i64 d.a, .slice d.sp d.sl d.sc, .string d.n, .slice d.kp d.kl d.kc] 26)).alloc (.cells #[.func (.func 69) #[] #[]] 102)).alloc (.cells #[.func (.func 101) #[] #[.pointer (some ⟨W1.heap.size + 1, 0, none⟩)]] 104) = X := ⟨_, rfl⟩
     rw [hX] at e1 e2 u3 e0 sX vb vb1 ⊢
     refine Reg.done (by kernel_rfl) ?_
     simp only [NoPan, Reg.ov, Act.put, List.setIfInBounds_toArray, List.set_cons_succ, List.set_cons_zero]
     rw [show Y.heap.size + 1 + 1 = Y.heap.size + 2 from rfl] at u3
     rw [ys] at e1 e2 u3 sX ⊢
     have xb1 := (vb1.block (w.heap.size + 1) (show w.heap.size + 1 < W1.heap.size + 1 by omega)).trans z2
     have xb3 := (vb1.block W1.heap.size (show W1.heap.size < W1.heap.size + 1 by omega)).trans n3
     have bX : Below w.heap.size w X := bZ.drew.trans (vb1.mono (show w.heap.size ≤ W1.heap.size + 1 by omega))
     have sX2 : W1.heap.size + 5 ≤ X.heap.size := by omega
     clear hX v1 v2 v3 u1 u2 vb vb1 yb y0 sX ys n3 z1 z2
     gi_wp2
     refine enter3 (gf := 95) (lb := #[.pointer (some ⟨W1.heap.size + 2 + 1, 0, none⟩), .pointer (some ⟨W1.heap.size + 2, 0, none⟩), .pointer (some ⟨W1.heap.size + 2 + 2, 0, none⟩)]) rfl (enters_of Tryz.func95 (by kernel_rfl) rfl) ?_
     intro r We hr hrec hdef hszE hbE
     have bE := bX.trans (hbE.mono (by omega))
     have k1 := (hbE.block (w.heap.size + 1) (by omega)).trans xb1
     have k3 := (hbE.block W1.heap.size (by omega)).trans xb3
     have hsl : Hid ((xs.take g).length = g) := hide (by rw [List.length_take]; omega)
     obtain ⟨zs, hzs⟩ : ∃ zs, xs.take g = zs := ⟨_, rfl⟩
     rw [hzs] at hll hsl hxc e0
     have ib0 : IB (W1.heap.size + 1) W1.heap.size ((pls zs.reverse (rxOf t).rev (fun m => (g : Int) - (m : Int))) 0) We := ⟨_, k3, by simpa [pls] using ownI_nil We (W1.heap.size + 1)⟩
     refine (lens69_in 8 (by omega) w (rxOf t).rev d zs.reverse (W1.heap.size + 1) W1.heap.size (W1.heap.size + 2 + 1) (W1.heap.size + 2) (W1.heap.size + 2 + 2) (W1.heap.size + 1) (X.heap.size + 1) _ (bwd_mk t hP.out.vp d w hT) (pts_back hxc hll (W1.heap.size + 1)) (by rw [List.length_reverse]; exact hll) (by omega) (by omega) (by omega) (by omega)
       (fun m A => IB (W1.heap.size + 1) W1.heap.size ((pls zs.reverse (rxOf t).rev (fun m => (g : Int) - (m : Int))) m) A ∧ A.heap[w.heap.size + 1]? = some (.cells #[.int .i64 (g : Int)] 3) ∧ A.heap[X.heap.size + 1]? = some (.loop r) ∧ A.heap[X.heap.size]? = some (.deferred (some [])) ∧ Below w.heap.size w A)
       (fun m A => False)
       We ((hbE.block _ (by omega)).trans e2) ((hbE.block _ (by omega)).trans e1) ((hbE.block _ (by omega)).trans u3) ((hbE.block _ (by omega)).trans e0) bE (by omega) (by omega) ?stable (fun _ _ _ h _ => h) ?skip ?lt ?own0 ?round ⟨ib0, k1, hrec.out, hdef.out, bE⟩).mono ?_
     case stable =>
       rintro m A A' ⟨j1, j2, j3, j4, j5⟩ hb
       exact ⟨j1.keep hb (by omega), (hb.below.block _ (by omega)).trans j2, (hb.below.block _ (by omega)).trans j3, (hb.below.block _ (by omega)).trans j4, j5.trans (hb.below.mono (by omega))⟩
     case skip =>
       rintro m A hm ⟨j1, j2, j3, j4, j5⟩
       refine ⟨?_, j2, j3, j4, j5⟩
       rw [pls_succ, hm]
       simpa using j1
     case lt =>
       rintro m A ⟨j1, _⟩ k ho
       exact (j1.ow ho).1
     case own0 =>
       rintro k _ ⟨v, t', f', h1, h2⟩
       rw [k3] at h1
       cases h1
       cases h2
     case round =>
       rintro m hm hhit A ⟨j1, j2, j3, j4, j5⟩ hle hBA
       have HP : Hid ((pls zs.reverse (rxOf t).rev (fun m => (g : Int) - (m : Int))) (m + 1) = (pls zs.reverse (rxOf t).rev (fun m => (g : Int) - (m : Int))) m ++ [(g : Int) - (m : Int)]) := hide (by rw [pls_succ, hhit]; rfl)
       have hlp := pls_le zs.reverse (rxOf t).rev (fun m => (g : Int) - (m : Int)) m
       obtain ⟨ss, hss⟩ : ∃ ss, (pls zs.reverse (rxOf t).rev (fun m => (g : Int) - (m : Int))) m = ss := ⟨_, rfl⟩
       rw [hss] at j1 HP hlp
       clear hss hhit
       rw [List.length_reverse, hsl.out] at hm
       obtain ⟨i0, hi0, hz0, hz1, hz2⟩ := info_parts info3N
       refine yield3 hr j3 rfl ?_
       gi_wp2
       have hl1 : X.heap.size + 1 < A.heap.size := (Array.getElem?_eq_some_iff.1 j3).1
       intro rb
       have hne : ∀ k, k ≠ X.heap.size + 1 → (A.putObj (X.heap.size + 1) (.loop rb)).heap[k]? = A.heap[k]? := fun k hk => World.putObj_heap_other hk
       have nl := j1.notRow j3 (fun _ _ _ h => by cases h)
       have kib := j1.put (show W1.heap.size ≠ X.heap.size + 1 by omega) nl (.loop rb)
       have k2 := (hne (w.heap.size + 1) (by omega)).trans j2
       have kr := hide (World.putObj_heap_same (w := A) (o := .loop rb) hl1)
       have ksz : (A.putObj (X.heap.size + 1) (.loop rb)).heap.size = A.heap.size := World.putObj_size
       have HNE := hide hne
       have kb : Hid (Below w.heap.size A (A.putObj (X.heap.size + 1) (.loop rb))) := hide (below_put _ _ (by omega))
       have kow : Hid (∀ k, Ow W1.heap.size (A.putObj (X.heap.size + 1) (.loop rb)) k ↔ Ow W1.heap.size A k) := hide (fun k => ⟨fun h => h.of (hne _ (by omega)), fun h => h.of (hne _ (by omega)).symm⟩)
       obtain ⟨A1, hA1⟩ : ∃ A1, A.putObj (X.heap.size + 1) (.loop rb) = A1 := ⟨_, rfl⟩
       rw [hA1] at kib k2 kr ksz HNE kb kow ⊢
       obtain ⟨v, k1, ko⟩ := kib
       have c1 : A1.cell? ⟨W1.heap.size, 0, none⟩ = some v := by simp [World.cell?, k1]
       have c2 : A1.cell? ⟨w.heap.size + 1, 0, none⟩ = some (.int .i64 (g : Int)) := by simp [World.cell?, k2]
       have HJ1 := hide j1
       have HJ2 := hide j2
       have HJ3 := hide j3
       have HJ4 := hide j4
       have HJ5 := hide j5
       have K1 := hide k1
       have K2 := hide k2
       have NL := hide nl
       have HS := hide ksz
       have kle : W1.heap.size + 1 ≤ A1.heap.size := by omega
       have kl2 : w.heap.size + 2 ≤ A1.heap.size := by omega
       clear hA1 hne j1 j2 j3 j4 j5 k1 k2 nl ksz
       gi_wp2_with (gi_at_builtin; refine wpListIn_append_own_at _ rfl _ _ 46 rfl (W1.heap.size + 1) 3 i0 (.int .i64 0) 1 8 Tryz.underlying46 hi0 hz0 hz1 hz2 rfl (by decide) v ss.length (ss.map (Value.int .i64)) rfl (ko.alloc _) ⟨A1.heap.size, 0, none⟩ 1 1 [.int .i64 ((g : Int) - (m : Int))] rfl rfl (cell_one_new _ _ _) (by simp [Value.oneCell']) (by unfold maxLen; omega) (by omega) (by simp; omega) ?_; intro v' w1 hown' hgrow _ hat; obtain ⟨g', cap', rfl⟩ := ownsRow_succ hown'; obtain ⟨hp1, hib, hkp, how, hsz, hos, htp, hou⟩ := ib_app (by omega) kle K1.out ko hown' hgrow hat; have hc1 : w1.cell? ⟨W1.heap.size, 0, none⟩ = some v := (by simp [World.cell?, hp1]); have hf1 : w1.frozen? ⟨W1.heap.size, 0, none⟩ = false := (by simp [World.frozen?, hp1]); have HIB := hide hib; have HKP := hide hkp; have HOW := hide how; have HSZ := hide hsz; have HOS := hide (And.intro hos (And.intro htp hou)); clear hib hkp how hsz hos htp hou hown' hgrow hat hp1 c1 c2)
       have fin : ∀ W4 : World, IB (W1.heap.size + 1) W1.heap.size (ss ++ [(g : Int) - (m : Int)]) W4 → (∀ k, k ≠ W1.heap.size → k < A1.heap.size → ¬ Ow W1.heap.size A1 k → W4.heap[k]? = A1.heap[k]?) → (∀ k, k < A1.heap.size → Ow W1.heap.size W4 k → Ow W1.heap.size A1 k) → A1.heap.size ≤ W4.heap.size → (W4.os = A1.os ∧ W4.tape = A1.tape ∧ W4.output = A1.output) →
           W4.heap[X.heap.size + 1]? = some (.loop rb) ∧ FrO W1.heap.size w.heap.size (W1.heap.size + 1) A (W4.putObj (X.heap.size + 1) (.loop r)) ∧ IB (W1.heap.size + 1) W1.heap.size ((pls zs.reverse (rxOf t).rev (fun m => (g : Int) - (m : Int))) (m + 1)) (W4.putObj (X.heap.size + 1) (.loop r)) ∧ (W4.putObj (X.heap.size + 1) (.loop r)).heap[w.heap.size + 1]? = some (.cells #[.int .i64 (g : Int)] 3) ∧ (W4.putObj (X.heap.size + 1) (.loop r)).heap[X.heap.size + 1]? = some (.loop r) ∧ (W4.putObj (X.heap.size + 1) (.loop r)).heap[X.heap.size]? = some (.deferred (some [])) ∧ Below w.heap.size w (W4.putObj (X.heap.size + 1) (.loop r)) := by
         intro W4 h1 h2 h3 h4 h5
         have hS := HS.out
         have nlA : ¬ Ow W1.heap.size A1 (X.heap.size + 1) := fun h => NL.out ((kow.out _).1 h)
         have m3 := (h2 (X.heap.size + 1) (by omega) (by omega) nlA).trans kr.out
         have hnp : ∀ k, k ≠ X.heap.size + 1 → (W4.putObj (X.heap.size + 1) (.loop r)).heap[k]? = W4.heap[k]? := fun k hk => World.putObj_heap_other hk
         have hsame : (W4.putObj (X.heap.size + 1) (.loop r)).heap[X.heap.size + 1]? = some (.loop r) := World.putObj_heap_same (Array.getElem?_eq_some_iff.1 m3).1
         have hall : ∀ k, k ≠ W1.heap.size → k < A.heap.size → ¬ Ow W1.heap.size A k → (W4.putObj (X.heap.size + 1) (.loop r)).heap[k]? = A.heap[k]? := fun k hk hk' ho => by
           by_cases he : k = X.heap.size + 1
           · rw [he, hsame]; exact HJ3.out.symm
           · rw [hnp k he, h2 k hk (by omega) (fun h => ho ((kow.out _).1 h))]
             exact HNE.out k he
         have hlow : ∀ k, k < W1.heap.size → ¬ Ow W1.heap.size A k := fun k hk ho => by
           have := (HJ1.out.ow ho).2
           omega
         have b9 : Below w.heap.size A (W4.putObj (X.heap.size + 1) (.loop r)) := ⟨h5.1.trans kb.out.os, h5.2.1.trans kb.out.tape, h5.2.2.trans kb.out.output, by rw [World.putObj_size]; omega, fun k hk => hall k (by omega) (by omega) (hlow k (by omega))⟩
         refine ⟨m3, ⟨b9.os, b9.tape, b9.output, b9.size, b9.block, fun k hk hk' ho => hall k (by omega) hk' ho, fun k hk ho => (kow.out _).1 (h3 k (by omega) (ho.of (hnp _ (by omega))))⟩, ?_, (hall _ (by omega) (by omega) (hlow _ (by omega))).trans HJ2.out, hsame, (hall _ (by omega) (by omega) (HJ1.out.notRow HJ4.out (fun _ _ _ h => by cases h))).trans HJ4.out, HJ5.out.trans b9⟩
         rw [HP.out]
         exact h1.put (by omega) (fun h => nlA (h3 _ (by omega) h)) _
       obtain ⟨f1, f2, f3, f4, f5, f6, f7⟩ := fin _ HIB.out HKP.out HOW.out HSZ.out HOS.out
       exact ⟨f1, rfl, f2, f3, f4, f5, f6, f7⟩
     rintro e W' ⟨hv, h⟩
     refine ⟨hv, ?_⟩
     rcases h with ⟨j1, j2, j3, j4, j5⟩ | ⟨_, _, h⟩
     · refine .inl ⟨j3, fun r' => ?_⟩
       have hnp : ∀ k, k ≠ X.heap.size + 1 → (W'.putObj (X.heap.size + 1) (.loop r')).heap[k]? = W'.heap[k]? := fun k hk => World.putObj_heap_other hk
       have q1 := j1.put (show W1.heap.size ≠ X.heap.size + 1 by omega) (j1.notRow j3 (fun _ _ _ h => by cases h)) (.loop r')
       have q4 := (hnp X.heap.size (by omega)).trans j4
       have q5 := j5.trans (below_put (n := w.heap.size) W' (.loop r') (show w.heap.size ≤ X.heap.size + 1 by omega))
       have q6 : W1.heap.size + 1 ≤ (W'.putObj (X.heap.size + 1) (.loop r')).heap.size := by
         have := (Array.getElem?_eq_some_iff.1 j3).1
         rw [World.putObj_size]
         omega
       clear j1 j2 j3 j4 j5 hnp
       generalize W'.putObj (X.heap.size + 1) (.loop r') = W9 at *
       obtain ⟨v, q1, q2⟩ := q1
       have c1 : W9.cell? ⟨W1.heap.size, 0, none⟩ = some v := by simp [World.cell?, q1]
       have HR : Hid (BegP t xs (g : Int) ((pls zs.reverse (rxOf t).rev (fun m => (g : Int) - (m : Int))) (zs.reverse.length + 1)).reverse) := hide (.inl ⟨⟨by omega, by omega, hP.out⟩, by rw [Int.toNat_natCast, hzs, List.length_reverse, hsl.out]⟩)
       have hpl2 := pls_le zs.reverse (rxOf t).rev (fun m => (g : Int) - (m : Int)) (zs.reverse.length + 1)
       rw [List.length_reverse] at hpl2 HR q2
       obtain ⟨ss, hss⟩ : ∃ ss, (pls zs.reverse (rxOf t).rev (fun m => (g : Int) - (m : Int))) (zs.length + 1) = ss := ⟨_, rfl⟩
       rw [hss] at hpl2 HR q2
       clear hss
       have hrv := rev_row W9 (W1.heap.size + 1) v ss q2 (by omega)
       have Q1 := hide q1
       have Q2 := hide q2
       have Q4 := hide q4
       clear q1 q2 q4
       gi_wp2_with fail
       refine ⟨trivial, (callsIn_wide.2 hrv).mono ?_⟩
       rintro e Wa ⟨rfl, o1, hg⟩
       have hn1 : v.ownBlock ≠ some W1.heap.size := fun e => by
         have := (Q2.out.lt e).2
         omega
       have p1 := (hg.block W1.heap.size (by omega) (fun e => hn1 e.symm)).trans Q1.out
       have p4 := (hg.block X.heap.size (Array.getElem?_eq_some_iff.1 Q4.out).1 (fun e => Q2.out.notRow Q4.out (fun _ _ _ h => by cases h) e.symm)).trans Q4.out
       have p5 : Below w.heap.size w Wa := q5.trans ⟨hg.os, hg.tape, hg.output, hg.size, fun k hk => hg.block k (by omega) (fun e => by have := (Q2.out.lt e.symm).2; omega)⟩
       have c2 : Wa.cell? ⟨W1.heap.size, 0, none⟩ = some v := by simp [World.cell?, p1]
       have HO := hide o1
       clear hrv c1 hg p1 o1
       gi_wp2
       refine ⟨by simp, .inl ⟨_, _, rfl, run_takeDeferred p4, ?_⟩⟩
       have HK : OwnI (Wa.putObj X.heap.size (.deferred none)) w.heap.size v ss.reverse := (HO.out.same fun k o hk ho => (World.putObj_heap_other (fun e => HO.out.notRow p4 (fun _ _ _ h => by cases h) (by rw [← e]; exact hk))).trans ho).mono (by omega)
       refine ⟨_, results_tmp rfl _ _ _, ?_, p5.trans (below_put _ _ (by omega))⟩
       exact ⟨v, _, rfl, HK, HR.out⟩
     · exact h.elim
theorem begsM_any (t : T) (d : ND) (w : World) (htab : Tabs w) (hT : TR w (fun _ => True) t d.v) (hps : (E.pre t t).length ≤ 1000000) (hnb : ∀ p ∈ E.pre t t, E.NodeB p.1) (ao : Option Addr) (cap : Nat) (xs : List Int) (hx : RdC32 w ao xs) (hlen : xs.length ≤ 1000000) (hcap : xs.length ≤ cap) (f : Int) :
   Calls Tryz.prog 35 #[d.v, .slice ao xs.length cap, .int .i64 f] w fun e W' => (∃ v zs, e = .returned v ∧ OwnI W' w.heap.size v zs ∧ BegP t xs f zs) ∧ Below w.heap.size w W' := callsIn_wide.1 (begsM_in t d w htab hT hps hnb ao cap xs hx hlen hcap f)
end
section
open Go.RowKit Go.Shelf
open E (T)
def tA : T := .mk 1 0 [(97,97)] [] []
theorem AnsP.ok {t : T} {w w' : World} {e : Ending} (h : AnsP (.ok t) w e w') : Below w.heap.size w w' ∧ ∃ d : ND, e = .returned (.tuple #[d.v, .int .i64 0, .int .i64 0]) ∧ TR w' (fun _ => True) t d.v := by
 obtain ⟨hb, ⟨t', v, h1, h2, h3⟩ | ⟨c, k, h1, _⟩⟩ := h
 · cases h1
   have h4 := TR.mono (ok' := fun _ => True) (fun _ _ _ => trivial) t h3
   obtain ⟨d, rfl, _⟩ := h4.nd
   exact ⟨hb, d, h2, h4⟩
 · cases h1
end
section
open Go.RowKit Go.Shelf
open E (Ps Rx T rxOf Vp)
attribute [local go_sem] Oper.semAt_some
def tS : T := .mk 6 0 [] [] [tA]
theorem parse8 : E.parse [39, 97, 42] = .ok tS := by rfl
theorem pre8 : E.pre tS tS = [(tS, tS), (tA, tA)] := by
 simp [tS, tA, E.pre, E.preK, T.kids]
theorem isp8 : E.IsP tS := by
 unfold E.IsP
 rw [pre8]
 refine ⟨by simp, fun p hp => ?_⟩
 simp only [List.mem_cons, List.not_mem_nil, or_false] at hp
 have c1 : U.S.Canon [((97 : Int), (97 : Int))] := U.S.canon_one (by decide)
 rcases hp with rfl | rfl
 · exact ⟨rfl, .inr (.inr ⟨by decide, by decide, rfl, rfl⟩)⟩
 · exact ⟨rfl, .inl ⟨rfl, rfl, by decide, c1⟩⟩
theorem plain8 : E.PlainP tS := ⟨isp8, by rw [pre8]; rfl⟩
theorem nodeB8 : ∀ p ∈ E.pre tS tS, E.NodeB p.1 := by
 rw [pre8]
 intro p hp
 simp only [List.mem_cons, List.not_mem_nil, or_false] at hp
 rcases hp with rfl | rfl <;> simp [E.NodeB, tS, tA, T.set, T.name, T.kids]
theorem ends8 {zs : List Int} (h : EndP tS [97, 97, 98] 0 zs) : zs = [0, 1, 2] := by
 rcases h with ⟨_, rfl⟩ | ⟨h, _⟩
 · decide
 · exact absurd ⟨by decide, by decide, plain8⟩ h
theorem begs8 {zs : List Int} (h : BegP tS [97, 97] 2 zs) : zs = [0, 1, 2] := by
 rcases h with ⟨_, rfl⟩ | ⟨h, _⟩
 · decide
 · exact absurd ⟨by decide, by decide, plain8⟩ h
theorem all8n : AllP tS [] := ⟨plain8, (hit_iff [] (rxOf tS) 0 (by decide)).1 (by decide)⟩
theorem all8b : ¬ AllP tS [98] := fun h => by
 have := (hit_iff [98] (rxOf tS) 1 (by decide)).2 h.2
 revert this
 decide
theorem rdc_new (w : World) (xs : List Int) : RdC32 (w.alloc (.cells ⟨xs.map (Value.int .i32)⟩ 21)) (some ⟨w.heap.size, 0, none⟩) xs := fun i hi => ⟨_, _, rfl, by
 have h := heap_alloc_new w (.cells ⟨xs.map (Value.int .i32)⟩ 21)
 unfold World.cell?
 rw [show (⟨w.heap.size, 0 + i, none⟩ : Addr).block = w.heap.size from rfl, h]
 simp [hi]⟩
theorem three_row {w : World} {B : Nat} {v : Value} (h : OwnI w B v [0, 1, 2]) : ∃ g cap, v = .slice (some ⟨g, 0, none⟩) 3 cap ∧ w.cell? ⟨g, 0, none⟩ = some (.int .i64 0) ∧ w.cell? ⟨g, 2, none⟩ = some (.int .i64 2) := by
 obtain ⟨g, cap, rfl, _, _, _, _, _, hH⟩ := Lib.holds_of_ownsRow h (by rintro rfl; obtain ⟨_, ⟨_, h⟩ | ⟨_, _, _, e, _⟩⟩ := h; cases h; cases e)
 have h0 := hH 0 (by decide)
 have h2 := hH 2 (by decide)
 exact ⟨g, cap, rfl, by simpa using h0.1, by simpa using h2.1⟩
set_option maxRecDepth 100000 in
set_option maxHeartbeats 4000000 in
theorem known8_any (w : World) (ht : Tabs w) : Calls Tryz.prog 29 #[] w fun e w' => e = .returned (.bool true) ∧ Below w.heap.size w w' := by
 have h1 := parse_any ⟨#[39, 97, 42]⟩ (by decide) w ht
 rw [show E.parse (bts ⟨#[39, 97, 42]⟩) = _ from parse8] at h1
 have hps : (E.pre tS tS).length ≤ 1000000 := by rw [pre8]; decide
 go_enter Tryz.func29, Tryz.ntmps29
 go_wp2_with fail
 refine h1.mono ?_
 intro e w1 ha
 obtain ⟨hb1, d, rfl, htr⟩ := ha.ok
 clear h1 ha
 have hc := fun (W : World) (hb : Below w1.heap.size w1 W) => (⟨ht.later (nx hb1 hb), TR.later (fun k hk => Below.block hb k hk) _ htr⟩ : Tabs W ∧ TR W (fun _ => True) tS d.v)
 have b0 := al1 w1 (.cells #[.int .i64 d.k, .int .i64 d.a, .slice d.sp d.sl d.sc, .string d.n, .slice d.kp d.kl d.kc] 26)
 have n0 := heap_alloc_new w1 (.cells #[.int .i64 d.k, .int .i64 d.a, .slice d.sp d.sl d.sc, .string d.n, .slice d.kp d.kl d.kc] 26)
 have s0 : (w1.alloc (.cells #[.int .i64 d.k, .int .i64 d.a, .slice d.sp d.sl d.sc, .string d.n, .slice d.kp d.kl d.kc] 26)).heap.size = w1.heap.size + 1 := by simp
 have b1 := al1 (w1.alloc (.cells #[.int .i64 d.k, .int .i64 d.a, .slice d.sp d.sl d.sc, .string d.n, .slice d.kp d.kl d.kc] 26)) (.cells #[.int .i32 97, .int .i32 97, .int .i32 98] 21)
 have r1 := rdc_new (w1.alloc (.cells #[.int .i64 d.k, .int .i64 d.a, .slice d.sp d.sl d.sc, .string d.n, .slice d.kp d.kl d.kc] 26)) [97, 97, 98]
 rw [s0] at r1
 have bA := nx b0 b1
 have hcall := endsM_any tS d _ (hc _ bA).1 (hc _ bA).2 hps nodeB8 (some ⟨w1.heap.size + 1, 0, none⟩) 3 [97, 97, 98] r1 (by decide) (by decide) 0
 have xA := (b1.block w1.heap.size (by simp)).trans n0
 have sA : ((w1.alloc (.cells #[.int .i64 d.k, .int .i64 d.a, .slice d.sp d.sl d.sc, .string d.n, .slice d.kp d.kl d.kc] 26)).alloc (.cells #[.int .i32 97, .int .i32 97, .int .i32 98] 21)).heap.size = w1.heap.size + 2 := by simp
 rw [show ([97, 97, 98] : List Int).length = 3 from rfl] at hcall
 unfold ND.v at hcall ⊢
 clear r1 n0 b0 b1 s0
 go_wp2_with fail
 refine hcall.mono ?_
 rintro e W2 ⟨⟨v, zs, rfl, ho, he⟩, hb2⟩
 have hz := ends8 he
 subst hz
 obtain ⟨g, cap, rfl, c0, c2⟩ := three_row ho
 have B2 := nx bA hb2
 have x2 := (hb2.block w1.heap.size (by omega)).trans xA
 have z2 := hb2.size
 rw [sA] at z2
 clear hcall he ho xA bA hb2 sA
 have hcall := allM_any tS d W2 (hc _ B2).1 (hc _ B2).2 hps nodeB8 none 0 [] (fun i hi => by simp at hi) (by simp)
 rw [List.length_nil] at hcall
 unfold ND.v at hcall
 obtain ⟨q0, q1, q2, q3, q4⟩ := cells_five x2
 go_wp2_with fail
 refine hcall.mono ?_
 rintro e W3 ⟨⟨b, rfl, hb⟩, hb3⟩
 have hbt := hb.2 all8n
 subst hbt
 have B3 := nx B2 hb3
 have x3 := (hb3.block w1.heap.size (by omega)).trans x2
 have z3 : w1.heap.size + 2 ≤ W3.heap.size := Nat.le_trans z2 hb3.size
 clear hcall hb hb3 x2 q0 q1 q2 q3 q4 c0 c2
 have b4 := al1 W3 (.cells #[.int .i32 98] 21)
 have B3a := nx B3 b4
 have hcall := allM_any tS d _ (hc _ B3a).1 (hc _ B3a).2 hps nodeB8 (some ⟨W3.heap.size, 0, none⟩) 1 [98] (rdc_new W3 [98]) (by decide)
 rw [show ([98] : List Int).length = 1 from rfl] at hcall
 have x3a := (b4.block w1.heap.size (by omega)).trans x3
 have s4 : (W3.alloc (.cells #[.int .i32 98] 21)).heap.size = W3.heap.size + 1 := by simp
 unfold ND.v at hcall
 obtain ⟨q0, q1, q2, q3, q4⟩ := cells_five x3
 clear b4 x3
 go_wp2_with fail
 refine hcall.mono ?_
 rintro e W4 ⟨⟨b, rfl, hb⟩, hb4⟩
 have hbt : b = false := by
   cases b with
   | false => rfl
   | true => exact absurd (hb.1 rfl) all8b
 subst hbt
 have B4 := nx B3a hb4
 have x4 := (hb4.block w1.heap.size (by omega)).trans x3a
 have z4 : w1.heap.size + 2 ≤ W4.heap.size := by have := hb4.size; omega
 clear hcall hb hb4 x3a q0 q1 q2 q3 q4 s4 B3a
 have hcall := nullM_any tS d W4 (hc _ B4).1 (hc _ B4).2 hps nodeB8
 unfold ND.v at hcall
 obtain ⟨q0, q1, q2, q3, q4⟩ := cells_five x4
 go_wp2_with fail
 refine hcall.mono ?_
 rintro e W5 ⟨⟨b, rfl, hb⟩, hb5⟩
 have hbt := hb.2 all8n
 subst hbt
 have B5 := nx B4 hb5
 have x5 := (hb5.block w1.heap.size (by omega)).trans x4
 have z5 : w1.heap.size + 2 ≤ W5.heap.size := Nat.le_trans z4 hb5.size
 clear hcall hb hb5 x4 q0 q1 q2 q3 q4
 have b6 := al1 W5 (.cells #[.int .i32 97, .int .i32 97] 21)
 have B5a := nx B5 b6
 have hcall := begsM_any tS d _ (hc _ B5a).1 (hc _ B5a).2 hps nodeB8 (some ⟨W5.heap.size, 0, none⟩) 2 [97, 97] (rdc_new W5 [97, 97]) (by decide) (by decide) 2
 rw [show ([97, 97] : List Int).length = 2 from rfl] at hcall
 unfold ND.v at hcall
 obtain ⟨q0, q1, q2, q3, q4⟩ := cells_five x5
 go_wp2_with fail
 refine hcall.mono ?_
 rintro e W6 ⟨⟨v, zs, rfl, ho, he⟩, hb6⟩
 have hz := begs8 he
 subst hz
 obtain ⟨g', cap', rfl, _, _⟩ := three_row ho
 have B6 := nx hb1 (nx B5a hb6)
 clear hcall ho he hb6 q0 q1 q2 q3 q4 x5
 go_wp2
 go_ret
 exact ⟨rfl, B6⟩
end
section
open Go.RowKit Go.Shelf
open E (T)
attribute [local go_sem] Oper.semAt_some
theorem res_node {fn : Func} {p : Tmp} (hr : fn.results = #[.cell p 26]) (tmps : Array Value) (W : World) (n : Nat) (u0 u1 u2 u3 u4 : Value) (h : tmps.getD p undef = .pointer (some ⟨n, 0, none⟩)) (hc : W.heap[n]? = some (.cells #[u0, u1, u2, u3, u4] 26)) : (results fn tmps).run Tryz.prog W = .ok (.agg #[u0, u1, u2, u3, u4]) W := by
 rw [res_cell hr, h]
 obtain ⟨c0, c1, c2, c3, c4⟩ := cells_five hc
 have hsz := Tryz.sizeOf26 W
 have hag := Tryz.isAgg26 W
 simp [asAddr, loadVar, Sem.run_bind, hsz, hag, Result.andThen, go_sem, c0, c1, c2, c3, c4]
end
section
open Go.RowKit Go.Shelf
open E (Ps Rx T rxOf Vp)
attribute [local go_sem] Oper.semAt_some
theorem bs1W {w : World} {ρ : Operand → Value} {o : Oper} {x : Operand} {u v : Int} (hop : o.op = .buildSlice 23 1 #[(0, x)]) (hx : ρ x = .agg #[.int .i32 u, .int .i32 v]) :
   (execOp ρ o).run Tryz.prog w = .ok (.value (.slice (some ⟨w.heap.size, 0, none⟩) 1 1)) (w.alloc (.cells #[.int .i32 u, .int .i32 v] 69)) := by
 obtain ⟨dst, op, type, pos, after, guard⟩ := o
 simp only at hop
 subst hop
 have h2 := Tryz.sizeOf69
 have h3 := Tryz.zeroValue69
 simp [execOp, hx, go_sem, h2, h3]
theorem noI_node {w : World} {b : Nat} {k a : Int} {sp kp : Option Addr} {sl sc kl kc : Nat} {n : ByteArray} (h : w.heap[b]? = some (.cells #[.int .i64 k, .int .i64 a, .slice sp sl sc, .string n, .slice kp kl kc] 26)) : NoI w b := by
 intro off z hc
 have : (#[Value.int .i64 k, .int .i64 a, .slice sp sl sc, .string n, .slice kp kl kc] : Array Value)[off]? = some (.int .i32 z) := by
   simpa [World.cell?, h] using hc
 rcases off with _ | _ | _ | _ | _ | off <;> simp at this
set_option maxRecDepth 100000 in
set_option maxHeartbeats 4000000 in
theorem two_ok (ok : Nat → Prop) (k : Int) (d d2 : ND) (t t2 : T) (w : World) (hT : TR w ok t d.v) (hT2 : TR w ok t2 d2.v) (hok : ∀ b, w.heap.size ≤ b → ok b) : Calls Tryz.prog 44 #[.int .i64 k, d.v, d2.v] w fun e w' => (∃ d' : ND, e = .returned d'.v ∧ TR w' ok (.mk k 0 [] [] [t, t2]) d'.v) ∧ Below w.heap.size w w' := by
 have HT := hide hT
 have HT2 := hide hT2
 clear hT hT2
 unfold ND.v at HT HT2 ⊢
 go_enter Tryz.func44, Tryz.ntmps44
 go_wp2
 have a0 := al1 w (.cells #[.int .i64 d.k, .int .i64 d.a, .slice d.sp d.sl d.sc, .string d.n, .slice d.kp d.kl d.kc] 26)
 have a1 := al1 (w.alloc (.cells #[.int .i64 d.k, .int .i64 d.a, .slice d.sp d.sl d.sc, .string d.n, .slice d.kp d.kl d.kc] 26)) (.cells #[.int .i64 d2.k, .int .i64 d2.a, .slice d2.sp d2.sl d2.sc, .string d2.n, .slice d2.kp d2.kl d2.kc] 26)
 have a2 := al1 ((w.alloc (.cells #[.int .i64 d.k, .int .i64 d.a, .slice d.sp d.sl d.sc, .string d.n, .slice d.kp d.kl d.kc] 26)).alloc (.cells #[.int .i64 d2.k, .int .i64 d2.a, .slice d2.sp d2.sl d2.sc, .string d2.n, .slice d2.kp d2.kl d2.kc] 26)) (.cells #[.int .i64 k, .int .i64 0, .slice none 0 0, .string ⟨#[]⟩, .slice (some ⟨w.heap.size + 1 + 1 + 1, 0, none⟩) 2 2] 26)
 have n2 := heap_alloc_new ((w.alloc (.cells #[.int .i64 d.k, .int .i64 d.a, .slice d.sp d.sl d.sc, .string d.n, .slice d.kp d.kl d.kc] 26)).alloc (.cells #[.int .i64 d2.k, .int .i64 d2.a, .slice d2.sp d2.sl d2.sc, .string d2.n, .slice d2.kp d2.kl d2.kc] 26)) (.cells #[.int .i64 k, .int .i64 0, .slice none 0 0, .string ⟨#[]⟩, .slice (some ⟨w.heap.size + 1 + 1 + 1, 0, none⟩) 2 2] 26)
 have a3 := al1 (((w.alloc (.cells #[.int .i64 d.k, .int .i64 d.a, .slice d.sp d.sl d.sc, .string d.n, .slice d.kp d.kl d.kc] 26)).alloc (.cells #[.int .i64 d2.k, .int .i64 d2.a, .slice d2.sp d2.sl d2.sc, .string d2.n, .slice d2.kp d2.kl d2.kc] 26)).alloc (.cells #[.int .i64 k, .int .i64 0, .slice none 0 0, .string ⟨#[]⟩, .slice (some ⟨w.heap.size + 1 + 1 + 1, 0, none⟩) 2 2] 26)) (.cells #[.int .i64 d.k, .int .i64 d.a, .slice d.sp d.sl d.sc, .string d.n, .slice d.kp d.kl d.kc, .int .i64 d2.k, .int .i64 d2.a, .slice d2.sp d2.sl d2.sc, .string d2.n, .slice d2.kp d2.kl d2.kc] 26)
 have n3 := heap_alloc_new (((w.alloc (.cells #[.int .i64 d.k, .int .i64 d.a, .slice d.sp d.sl d.sc, .string d.n, .slice d.kp d.kl d.kc] 26)).alloc (.cells #[.int .i64 d2.k, .int .i64 d2.a, .slice d2.sp d2.sl d2.sc, .string d2.n, .slice d2.kp d2.kl d2.kc] 26)).alloc (.cells #[.int .i64 k, .int .i64 0, .slice none 0 0, .string ⟨#[]⟩, .slice (some ⟨w.heap.size + 1 + 1 + 1, 0, none⟩) 2 2] 26)) (.cells #[.int .i64 d.k, .int .i64 d.a, .slice d.sp d.sl d.sc, .string d.n, .slice d.kp d.kl d.kc, .int .i64 d2.k, .int .i64 d2.a, .slice d2.sp d2.sl d2.sc, .string d2.n, .slice d2.kp d2.kl d2.kc] 26)
 rw [World.size_alloc, World.size_alloc] at n2
 rw [World.size_alloc, World.size_alloc, World.size_alloc] at n3
 have m2 := (a3.block (w.heap.size + 1 + 1) (by simp)).trans n2
 have bA := nx a0 (nx a1 (nx a2 a3))
 have hT := TR.later (fun j hj => bA.block j hj) _ HT.out
 have hT2 := TR.later (fun j hj => bA.block j hj) _ HT2.out
 have qq : ∀ (j : Nat) (u : Value), (#[.int .i64 d.k, .int .i64 d.a, .slice d.sp d.sl d.sc, .string d.n, .slice d.kp d.kl d.kc, .int .i64 d2.k, .int .i64 d2.a, .slice d2.sp d2.sl d2.sc, .string d2.n, .slice d2.kp d2.kl d2.kc] : Array Value)[j]? = some u → ((((w.alloc (.cells #[.int .i64 d.k, .int .i64 d.a, .slice d.sp d.sl d.sc, .string d.n, .slice d.kp d.kl d.kc] 26)).alloc (.cells #[.int .i64 d2.k, .int .i64 d2.a, .slice d2.sp d2.sl d2.sc, .string d2.n, .slice d2.kp d2.kl d2.kc] 26)).alloc (.cells #[.int .i64 k, .int .i64 0, .slice none 0 0, .string ⟨#[]⟩, .slice (some ⟨w.heap.size + 1 + 1 + 1, 0, none⟩) 2 2] 26)).alloc (.cells #[.int .i64 d.k, .int .i64 d.a, .slice d.sp d.sl d.sc, .string d.n, .slice d.kp d.kl d.kc, .int .i64 d2.k, .int .i64 d2.a, .slice d2.sp d2.sl d2.sc, .string d2.n, .slice d2.kp d2.kl d2.kc] 26)).cell? ⟨w.heap.size + 1 + 1 + 1, j, none⟩ = some u := fun j u hu => by
   unfold World.cell?
   rw [show (⟨w.heap.size + 1 + 1 + 1, j, none⟩ : Addr).block = w.heap.size + 1 + 1 + 1 from rfl, n3]
   exact hu
 refine ⟨rfl, _, res_node rfl _ _ (w.heap.size + 1 + 1) _ _ _ _ _ rfl m2, ⟨⟨k, 0, none, 0, 0, ⟨#[]⟩, some ⟨w.heap.size + 1 + 1 + 1, 0, none⟩, 2, 2⟩, rfl, ?_⟩, bA⟩
 rw [TR]
 refine ⟨none, 0, _, 2, rfl, U.rdr_nil _ _, Nat.le_refl _, ?_⟩
 rw [KR, KR, KR]
 exact ⟨⟨_, _, _, rfl, hok _ (by omega), hT, _, _, _, _, _, rfl, qq 0 _ rfl, qq 1 _ rfl, qq 2 _ rfl, qq 3 _ rfl, qq 4 _ rfl⟩, ⟨_, _, _, rfl, hok _ (by omega), hT2, _, _, _, _, _, rfl, qq 5 _ rfl, qq 6 _ rfl, qq 7 _ rfl, qq 8 _ rfl, qq 9 _ rfl⟩, trivial⟩
set_option maxRecDepth 100000 in
set_option maxHeartbeats 4000000 in
theorem one_ok (ok : Nat → Prop) (k : Int) (d : ND) (t : T) (w : World) (hT : TR w ok t d.v) (hok : ∀ b, w.heap.size ≤ b → ok b) : Calls Tryz.prog 43 #[.int .i64 k, d.v] w fun e w' => (∃ d' : ND, e = .returned d'.v ∧ TR w' ok (.mk k 0 [] [] [t]) d'.v) ∧ Below w.heap.size w w' := by
 have HT := hide hT
 clear hT
 unfold ND.v at HT ⊢
 go_enter Tryz.func43, Tryz.ntmps43
 go_wp2
 have a1 := al1 w (.cells #[.int .i64 d.k, .int .i64 d.a, .slice d.sp d.sl d.sc, .string d.n, .slice d.kp d.kl d.kc] 26)
 have a2 := al1 (w.alloc (.cells #[.int .i64 d.k, .int .i64 d.a, .slice d.sp d.sl d.sc, .string d.n, .slice d.kp d.kl d.kc] 26)) (.cells #[.int .i64 k, .int .i64 0, .slice none 0 0, .string ⟨#[]⟩, .slice (some ⟨w.heap.size + 1 + 1, 0, none⟩) 1 1] 26)
 have n2 := heap_alloc_new (w.alloc (.cells #[.int .i64 d.k, .int .i64 d.a, .slice d.sp d.sl d.sc, .string d.n, .slice d.kp d.kl d.kc] 26)) (.cells #[.int .i64 k, .int .i64 0, .slice none 0 0, .string ⟨#[]⟩, .slice (some ⟨w.heap.size + 1 + 1, 0, none⟩) 1 1] 26)
 have a3 := al1 ((w.alloc (.cells #[.int .i64 d.k, .int .i64 d.a, .slice d.sp d.sl d.sc, .string d.n, .slice d.kp d.kl d.kc] 26)).alloc (.cells #[.int .i64 k, .int .i64 0, .slice none 0 0, .string ⟨#[]⟩, .slice (some ⟨w.heap.size + 1 + 1, 0, none⟩) 1 1] 26)) (.cells #[.int .i64 d.k, .int .i64 d.a, .slice d.sp d.sl d.sc, .string d.n, .slice d.kp d.kl d.kc] 26)
 have n3 := heap_alloc_new ((w.alloc (.cells #[.int .i64 d.k, .int .i64 d.a, .slice d.sp d.sl d.sc, .string d.n, .slice d.kp d.kl d.kc] 26)).alloc (.cells #[.int .i64 k, .int .i64 0, .slice none 0 0, .string ⟨#[]⟩, .slice (some ⟨w.heap.size + 1 + 1, 0, none⟩) 1 1] 26)) (.cells #[.int .i64 d.k, .int .i64 d.a, .slice d.sp d.sl d.sc, .string d.n, .slice d.kp d.kl d.kc] 26)
 rw [World.size_alloc] at n2
 rw [World.size_alloc, World.size_alloc] at n3
 have m2 := (a3.block (w.heap.size + 1) (by simp)).trans n2
 have bA := nx a1 (nx a2 a3)
 obtain ⟨q0, q1, q2, q3, q4⟩ := cells_five n3
 have hT := TR.later (fun j hj => bA.block j hj) _ HT.out
 refine ⟨rfl, _, res_node rfl _ _ (w.heap.size + 1) _ _ _ _ _ rfl m2, ⟨⟨k, 0, none, 0, 0, ⟨#[]⟩, some ⟨w.heap.size + 1 + 1, 0, none⟩, 1, 1⟩, rfl, ?_⟩, bA⟩
 rw [TR]
 refine ⟨none, 0, _, 1, rfl, U.rdr_nil _ _, Nat.le_refl _, ?_⟩
 rw [KR, KR]
 exact ⟨⟨_, _, _, rfl, hok _ (by omega), hT, _, _, _, _, _, rfl, q0, q1, q2, q3, q4⟩, trivial⟩
end
end Go.Proofs.YteaaijhppmkfeaaGreatDoor
