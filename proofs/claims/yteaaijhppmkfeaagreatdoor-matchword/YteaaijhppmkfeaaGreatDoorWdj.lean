/- MatchWord's walk and what it needs, in one text. -/
import Derived.BigQuiet
import Derived.Maps.OwnIn
import Derived.Test.YteaaijhppmkfeaaGreatDoorAlm
import Derived.Test.YteaaijhppmkfeaaGreatDoorPln
import Derived.Test.YteaaijhppmkfeaaGreatDoorPar
local macro "kq" : term => `(by kernel_rfl)
local macro "om" : term => `(by omega)
set_option hygiene false in
local macro "Wz" : term => `(W1.heap.size)
local macro "fc" : term => `(fun _ _ _ h => by cases h)
set_option hygiene false in
local macro "q9" : term => `(w.heap.size)
set_option hygiene false in
local macro "Xz" : term => `(X.heap.size)
set_option hygiene false in
local macro "Az" : term => `(A.heap.size)
set_option hygiene false in
local macro "Bz" : term => `(A1.heap.size)
set_option hygiene false in
local macro "rz" : term => `(wr.heap.size)
set_option hygiene false in
local macro "pR" : term => `(pls zs.reverse (rxOf t).rev (fun m => (g : Int) - (m : Int)))
set_option hygiene false in
local macro "pE" : term => `(pls zs (rxOf t) (fun m => (g : Int) + (m : Int)))
local macro "fh" : term => `(fun _ _ _ _ _ h => h)
set_option hygiene false in
local macro "NdV" : term => `(#[.int .i64 d.k, .int .i64 d.a, .slice d.sp d.sl d.sc, .string d.n, .slice d.kp d.kl d.kc])
namespace Go.Proofs.YteaaijhppmkfeaaGreatDoor
section
open Go.RowKit Go.Shelf
open E (Ps Rx T rxOf Vp)
attribute [local go_sem] Oper.semAt_some
set_option maxRecDepth 100000 in
set_option maxHeartbeats 1000000 in
theorem within_any (ao : Option Addr) (n cap : Nat) (p : Int) (w : World) : Calls Tryz.prog 63 #[.slice ao n cap, .int .i64 p] w fun e w' => U.Told (0 ≤ p ∧ p ≤ (n : Int)) e ∧ w' = w := by
  go_enter Tryz.func63, Tryz.ntmps63
  by_cases h0 : 0 ≤ p
  · go_wp2
    go_ret
    exact ⟨⟨_, rfl, by simp [h0]⟩, rfl⟩
  · have h0' : p < 0 := by omega
    go_wp2
    go_ret
    exact ⟨U.told_no (fun h => by omega), rfl⟩
set_option maxRecDepth 100000 in
theorem cut_from8 {w : World} {ao : Option Addr} {cap : Nat} {xs : List Int} (hx : RdC32 w ao xs) (f : Nat) (hf : f ≤ xs.length) (hc : xs.length ≤ cap) : ∃ ao', (∀ wx : World, (Instr.slice 44 (.slice ao xs.length cap) (some (.int .i64 (f : Int))) none none).run Tryz.prog wx = .ok (.slice ao' (xs.drop f).length (cap - f)) wx) ∧ RdC32 w ao' (xs.drop f) := by
  refine ⟨if cap = f then ao else ao.map (·.add (f * 1)), fun wx => ?_, fun i hi => ?_⟩
  · have h := run_slice_l (P := Tryz.prog) (w := wx) 44 ao xs.length cap Tryz.underlying44 .i64 (f : Int) om om
    rw [h, elemSize44]
    simp only [Result.andThen, sliced, Int.toNat_natCast, List.length_drop]
  · rw [List.length_drop] at hi
    obtain ⟨b, off, e, h1⟩ := hx (f + i) om
    rw [if_neg om, e]
    refine ⟨b, off + f, by simp [Addr.add], ?_⟩
    rw [show off + f + i = off + (f + i) by omega, h1]
    simp
set_option maxRecDepth 100000 in
theorem cut_to8 {w : World} {ao : Option Addr} {cap : Nat} {xs : List Int} (hx : RdC32 w ao xs) (f : Nat) (hf : f ≤ xs.length) (hc : xs.length ≤ cap) : ∃ ao', (∀ wx : World, (Instr.slice 44 (.slice ao xs.length cap) none (some (.int .i64 (f : Int))) none).run Tryz.prog wx = .ok (.slice ao' (xs.take f).length (cap - 0)) wx) ∧ RdC32 w ao' (xs.take f) := by
  refine ⟨if cap = 0 then ao else ao.map (·.add (0 * 1)), fun wx => ?_, fun i hi => ?_⟩
  · have h := run_slice_h (P := Tryz.prog) (w := wx) 44 ao xs.length cap Tryz.underlying44 .i64 (f : Int) om om
    rw [h, elemSize44]
    simp only [Result.andThen, sliced, Int.toNat_natCast, List.length_take, Nat.sub_zero, Nat.min_eq_left hf]
  · rw [List.length_take] at hi
    obtain ⟨b, off, e, h1⟩ := hx i om
    rw [if_neg om, e]
    exact ⟨b, off, by simp [Addr.add], by rw [h1]; simp⟩
theorem Rcl.slf {w : World} {ρ : Operand → Value} {o : Oper} {x y : Operand} {ao : Option Addr} {n c : Nat} {vy v : Value} (hop : o.op = .slice 44 x (some y) none none) (hx : ρ x = .slice ao n c) (hy : ρ y = vy) (h : (Instr.slice 44 (.slice ao n c) (some vy) none none).run Tryz.prog w = .ok v w) : (execOp ρ o).run Tryz.prog w = .ok (.value v) w := by
  obtain ⟨dst, op, type, pos, after, guard⟩ := o
  simp only at hop
  subst hop
  simp [execOp, hx, hy, Instr.sliceAt, h, Result.andThen]
theorem Rcl.slt {w : World} {ρ : Operand → Value} {o : Oper} {x y : Operand} {ao : Option Addr} {n c : Nat} {vy v : Value} (hop : o.op = .slice 44 x none (some y) none) (hx : ρ x = .slice ao n c) (hy : ρ y = vy) (h : (Instr.slice 44 (.slice ao n c) none (some vy) none).run Tryz.prog w = .ok v w) : (execOp ρ o).run Tryz.prog w = .ok (.value v) w := by
  obtain ⟨dst, op, type, pos, after, guard⟩ := o
  simp only at hop
  subst hop
  simp [execOp, hx, hy, Instr.sliceAt, h, Result.andThen]
theorem Rcl.mvE {w : World} {ρ : Operand → Value} {o : Oper} {x : Operand} {v : Value} (hop : o.op = .move x) (hx : ρ x = v) : (execOp ρ o).run Tryz.prog w = .ok (.value v) w := by
  obtain ⟨dst, op, type, pos, after, guard⟩ := o
  simp only at hop
  subst hop
  simp [execOp, hx]
def OwnI (w : World) (B : Nat) (v : Value) (zs : List Int) : Prop := w.ownsRow B 3 1 v zs.length (zs.map (Value.int .i64))
theorem ownI_nil (w : World) (B : Nat) : OwnI w B (.slice none 0 0) [] := World.ownsRow_nil w _ _ _
theorem OwnI.same {w w' : World} {B : Nat} {v : Value} {ss : List Int} (h : OwnI w B v ss) (hs : ∀ (g : Nat) (o : Obj), v.ownBlock = some g → w.heap[g]? = some o → w'.heap[g]? = some o) : OwnI w' B v ss := by
  obtain ⟨h1, h2 | ⟨g, cap, cur, rfl, h3, h4, h5⟩⟩ := h
  · exact ⟨h1, .inl h2⟩
  · exact ⟨h1, .inr ⟨g, cap, cur, rfl, h3, hs g _ rfl h4, h5⟩⟩
theorem OwnI.lt {w : World} {B : Nat} {v : Value} {ss : List Int} (h : OwnI w B v ss) {g : Nat} (hg : v.ownBlock = some g) : g < q9 ∧ B ≤ g := by
  obtain ⟨_, ⟨rfl, _⟩ | ⟨g', cap, cur, rfl, h3, h4, _⟩⟩ := h
  · cases hg
  · cases hg
    exact ⟨(Array.getElem?_eq_some_iff.1 h4).1, h3⟩
def IB (B pb : Nat) (ss : List Int) (A : World) : Prop := ∃ v, A.heap[pb]? = some (.cells #[v] 46) ∧ OwnI A B v ss
theorem IB.ow {B pb : Nat} {ss : List Int} {A : World} (h : IB B pb ss A) {k : Nat} (ho : Ow pb A k) : k < Az ∧ B ≤ k := by
  obtain ⟨v, h1, h2⟩ := h
  obtain ⟨v', t, f, h3, h4⟩ := ho
  rw [h1] at h3
  cases h3
  exact h2.lt h4
theorem IB.keep {B pb n : Nat} {ss : List Int} {A A' : World} (h : IB B pb ss A) (hk : KpO pb n A A') (hp : pb < n) : IB B pb ss A' := by
  obtain ⟨v, h1, h2⟩ := h
  refine ⟨v, (hk.below.block pb hp).trans h1, h2.same fun g o hv hg => (hk.own g (Array.getElem?_eq_some_iff.1 hg).1 ⟨v, _, _, h1, hv⟩).trans hg⟩
theorem IB.put {B pb x : Nat} {ss : List Int} {A : World} (h : IB B pb ss A) (hb : pb ≠ x) (hx : ¬ Ow pb A x) (o' : Obj) : IB B pb ss (A.putObj x o') := by
  obtain ⟨v, h1, h2⟩ := h
  refine ⟨v, (World.putObj_heap_other hb).trans h1, h2.same fun g o hv hg => (World.putObj_heap_other ?_).trans hg⟩
  rintro rfl
  exact hx ⟨v, _, _, h1, hv⟩
theorem info3N : (Tryz.prog.info? 3).map (fun i => (i.zero, i.size, i.bytes)) = some (some (.int .i64 0), 1, 8) := by kernel_rfl
def pls (zs : List Int) (x : Rx) (g : Nat → Int) (m : Nat) : List Int := ((List.range m).filter (hit zs x)).map g
theorem pls_succ (zs : List Int) (x : Rx) (g : Nat → Int) (m : Nat) : pls zs x g (m + 1) = pls zs x g m ++ if hit zs x m then [g m] else [] := by
  unfold pls
  rw [List.range_succ, List.filter_append, List.map_append]
  cases h : hit zs x m <;> simp [h]
theorem pls_le (zs : List Int) (x : Rx) (g : Nat → Int) (m : Nat) : (pls zs x g m).length ≤ m := by
  unfold pls
  rw [List.length_map]
  exact Nat.le_trans (List.length_filter_le _ _) (by simp)
theorem ib_app {A1 w1 : World} {B pb : Nat} {ss : List Int} {s : Int} {v v' : Value} {tmp : Obj} (hpB : pb < B) (hBA : B ≤ Bz) (h1 : A1.heap[pb]? = some (.cells #[v] 46)) (ho : OwnI A1 B v ss)
    (hown : w1.ownsRow B 3 1 v' (ss.length + 1) (ss.map (Value.int .i64) ++ [.int .i64 s])) (hg : (A1.alloc tmp).grownBy w1 v.ownBlock) (hat : v'.ownBlock = v.ownBlock ∨ v'.ownBlock = some (A1.alloc tmp).heap.size) :
    w1.heap[pb]? = some (.cells #[v] 46) ∧ IB B pb (ss ++ [s]) (w1.setCell ⟨pb, 0, none⟩ v') ∧ (∀ k, k ≠ pb → k < Bz → ¬ Ow pb A1 k → (w1.setCell ⟨pb, 0, none⟩ v').heap[k]? = A1.heap[k]?) ∧ (∀ k, k < Bz → Ow pb (w1.setCell ⟨pb, 0, none⟩ v') k → Ow pb A1 k) ∧ Bz ≤ (w1.setCell ⟨pb, 0, none⟩ v').heap.size ∧ (w1.setCell ⟨pb, 0, none⟩ v').os = A1.os ∧ (w1.setCell ⟨pb, 0, none⟩ v').tape = A1.tape ∧ (w1.setCell ⟨pb, 0, none⟩ v').output = A1.output := by
  have hk : ∀ k, k < Bz → ¬ Ow pb A1 k → w1.heap[k]? = A1.heap[k]? := fun k hk hn => (hg.block k (by simp; omega) (fun e => hn ⟨v, _, _, h1, e.symm⟩)).trans (Below.heap_alloc _ _ _ hk)
  have hpn : ¬ Ow pb A1 pb := fun h => by
    obtain ⟨v2, t, f, h3, h4⟩ := h
    rw [h1] at h3
    cases h3
    have := (ho.lt h4).2
    omega
  have hp1 := (hk pb om hpn).trans h1
  have hne : ∀ k, k ≠ pb → (w1.setCell ⟨pb, 0, none⟩ v').heap[k]? = w1.heap[k]? := fun k hk => Below.heap_setCell _ _ _ _ hk
  have hpb' : (w1.setCell ⟨pb, 0, none⟩ v').heap[pb]? = some (.cells #[v'] 46) := by simp [World.setCell, Array.getElem?_modify, hp1]
  have hs1 : Bz ≤ w1.heap.size := Nat.le_trans (by simp) hg.size
  have hsz : (w1.setCell ⟨pb, 0, none⟩ v').heap.size = w1.heap.size := by simp [World.setCell]
  have ho1 : OwnI w1 B v' (ss ++ [s]) := by
    unfold OwnI
    rw [List.length_append, List.map_append]
    exact hown
  refine ⟨hp1, ⟨v', hpb', ho1.same fun g o hv hg' => (hne g (by have := (ho1.lt hv).2; omega)).trans hg'⟩, fun k h2 h3 h4 => (hne k h2).trans (hk k h3 h4), fun k h2 ho' => ?_, by omega, hg.os, hg.tape, hg.output⟩
  obtain ⟨v2, t, f, h3, h4⟩ := ho'
  rw [hpb'] at h3
  cases h3
  rcases hat with h5 | h5
  · exact ⟨v, _, _, h1, h5 ▸ h4⟩
  · rw [h5] at h4
    simp at h4
    omega
end
section
open Go.RowKit Go.Shelf
open E (Ps Rx T rxOf Vp)
attribute [local go_sem] Oper.semAt_some
def EndP (t : T) (xs : List Int) (f : Int) (zs : List Int) : Prop :=
  ((0 ≤ f ∧ f ≤ (xs.length : Int) ∧ E.PlainP t) ∧ zs = pls (xs.drop f.toNat) (rxOf t) (fun m => f + (m : Int)) (xs.length - f.toNat + 1)) ∨ (¬ (0 ≤ f ∧ f ≤ (xs.length : Int) ∧ E.PlainP t) ∧ zs = [])
theorem OwnI.mono {w : World} {B C : Nat} {v : Value} {ss : List Int} (h : OwnI w B v ss) (hc : C ≤ B) : OwnI w C v ss := by
  obtain ⟨h1, h2 | ⟨g, cap, cur, rfl, h3, h4, h5⟩⟩ := h
  · exact ⟨h1, .inl h2⟩
  · exact ⟨h1, .inr ⟨g, cap, cur, rfl, Nat.le_trans hc h3, h4, h5⟩⟩
theorem OwnI.alloc {w : World} {B : Nat} {v : Value} {ss : List Int} (h : OwnI w B v ss) (o : Obj) : OwnI (w.alloc o) B v ss :=
  h.same fun _ _ _ hg => (Below.heap_alloc _ _ _ (Array.getElem?_eq_some_iff.1 hg).1).trans hg
theorem OwnI.notRow {w : World} {B : Nat} {v : Value} {ss : List Int} (h : OwnI w B v ss) {k : Nat} {o : Obj} (hk : w.heap[k]? = some o) (hn : ∀ c t f, o ≠ .cells c t f) : v.ownBlock ≠ some k := by
  intro e
  obtain ⟨_, ⟨rfl, _⟩ | ⟨g', cap, cur, rfl, h5, h6, _⟩⟩ := h
  · cases e
  · cases e
    rw [hk] at h6
    cases h6
    exact hn _ _ _ rfl
theorem IB.notRow {B pb : Nat} {ss : List Int} {A : World} (h : IB B pb ss A) {k : Nat} {o : Obj} (hk : A.heap[k]? = some o) (hn : ∀ c t f, o ≠ .cells c t f) : ¬ Ow pb A k := by
  rintro ⟨v', t, f, h3, h4⟩
  obtain ⟨v, h1, h2⟩ := h
  rw [h1] at h3
  cases h3
  exact h2.notRow hk hn h4
set_option maxRecDepth 100000 in
set_option maxHeartbeats 4000000 in
theorem endsM_in (t : T) (d : ND) (w : World) (htab : Tabs w) (hT : TR w (fun _ => True) t d.v) (hps : (E.pre t t).length ≤ 1000000) (hnb : ∀ p ∈ E.pre t t, E.NodeB p.1) (ao : Option Addr) (cap : Nat) (xs : List Int) (hx : RdC32 w ao xs) (hlen : xs.length ≤ 1000000) (hcap : xs.length ≤ cap) (f : Int) :
    CallsIn Fence.wide 9 Tryz.prog 32 #[d.v, .slice ao xs.length cap, .int .i64 f] w fun e W' => (∃ v zs, e = .returned v ∧ OwnI W' q9 v zs ∧ EndP t xs f zs) ∧ Below q9 w W' := by
  have hpl := fun W hb => plain_any t d W (htab.later hb) (TR.later (fun k hk => Below.block hb k hk) _ hT) hps hnb
  have hwi := within_any ao xs.length cap f
  unfold ND.v at hpl ⊢
  refine callsIn_of_wp_marks Tryz.func32 rfl trivial ?_ rfl
  simp only [Tryz.ntmps32, List.size_toArray, List.length_cons, List.length_nil, Nat.reduceAdd, Nat.reduceSub, Array.replicate_succ, Array.replicate_zero, List.push_toArray, List.append_toArray, List.nil_append, List.cons_append]
  have a1 := al1 w (.cells NdV 26)
  have n1 := heap_alloc_new w (.cells NdV 26)
  have a2 := al1 (w.alloc (.cells NdV 26)) (.cells #[.int .i64 f] 3)
  have n2 := heap_alloc_new (w.alloc (.cells NdV 26)) (.cells #[.int .i64 f] 3)
  have s2 : ((w.alloc (.cells NdV 26)).alloc (.cells #[.int .i64 f] 3)).heap.size = q9 + 2 := by simp
  rw [World.size_alloc] at n2
  have m1 := (a2.block q9 (by simp)).trans n1
  have b3 := nx a1 a2
  have hp := hpl _ b3
  have hw := hwi ((w.alloc (.cells NdV 26)).alloc (.cells #[.int .i64 f] 3))
  clear hpl n1 a1 a2 hwi
  gi_wp2_with fail
  refine ⟨trivial, (callsIn_wide.2 hw).mono ?_⟩
  rintro e W0 ⟨⟨b, rfl, hb⟩, rfl⟩
  have HB := hide hb
  clear hw hb
  cases b with
  | false =>
    have hI : Hid (¬ (0 ≤ f ∧ f ≤ (xs.length : Int))) := hide (fun h => by have := HB.out.2 h; cases this)
    clear HB
    gi_wp2
    refine ⟨trivial, ?_⟩
    gi_wp2
    exact ⟨_, results_tmp rfl _ _ _, ⟨_, [], rfl, ownI_nil _ _, .inr ⟨fun h => hI.out ⟨h.1, h.2.1⟩, rfl⟩⟩, b3⟩
  | true =>
    have hI := hide (HB.out.1 rfl)
    clear HB
    gi_wp2_with fail
    refine ⟨trivial, (callsIn_wide.2 hp).mono ?_⟩
    rintro e W1 ⟨⟨b, rfl, hb⟩, hb1⟩
    have hs1 := hb1.size
    rw [s2] at hs1
    have x1 := (hb1.block q9 om).trans m1
    have x2 := (hb1.block (q9 + 1) om).trans n2
    have bW := nx b3 hb1
    have HB := hide hb
    clear hp hb hb1 m1 n2 b3 s2
    cases b with
    | false =>
      have hP : Hid (¬ E.PlainP t) := hide (fun h => by have := HB.out.2 h; cases this)
      clear HB x1 x2
      gi_wp2
      exact ⟨_, results_tmp rfl _ _ _, ⟨_, [], rfl, ownI_nil _ _, .inr ⟨fun h => hP.out h.2.2, rfl⟩⟩, bW⟩
    | true =>
      have hP := hide (HB.out.1 rfl)
      clear HB
      obtain ⟨g, hg⟩ : ∃ g : Nat, f = (g : Int) := ⟨f.toNat, by have := hI.out.1; omega⟩
      have hgl : g ≤ xs.length := by have := hI.out.2; omega
      subst hg
      clear hI
      obtain ⟨ac, hac, hxc⟩ := cut_from8 hx g hgl hcap
      have hll : (xs.drop g).length ≤ 1000000 := by rw [List.length_drop]; omega
      gi_wp2
      have a3 := al1 W1 (.cells #[.slice none 0 0] 46)
      have n3 := heap_alloc_new W1 (.cells #[.slice none 0 0] 46)
      have s3 : (W1.alloc (.cells #[.slice none 0 0] 46)).heap.size = Wz + 1 := by simp
      have z1 := (a3.block q9 om).trans x1
      have z2 := (a3.block (q9 + 1) om).trans x2
      have bZ := bW.trans (a3.mono (show q9 ≤ Wz by omega))
      obtain ⟨Z, hZ⟩ : ∃ Z, W1.alloc (.cells #[.slice none 0 0] 46) = Z := ⟨_, rfl⟩
      rw [hZ] at a3 n3 s3 z1 z2 bZ ⊢
      clear hZ x1 x2 a3
      have kx : ∀ w', Below (Wz + 1) Z.drew w' → w'.heap[q9]? = some (.cells NdV 26) ∧ w'.heap[q9 + 1]? = some (.cells #[.int .i64 (g : Int)] 3) := fun w' hb => ⟨(hb.block _ om).trans z1, (hb.block _ om).trans z2⟩
      refine noPan (wpIn_wide.2 ?_)
      refine Reg.start (B := Wz + 1) kq ?_
      refine Reg.take fh 0 _ 18 (.agg NdV) rfl kq kq kq rfl kq kq (fun w' hb => Reg.ldN rfl rfl (kx w' hb).1) ?_
      refine Reg.take fh 1 _ 19 (.slice ao xs.length cap) rfl kq kq kq rfl kq kq (fun w' hb => Rcl.mvE rfl rfl) ?_
      refine Reg.take fh 2 _ 20 (.int .i64 (g : Int)) rfl kq kq kq rfl kq kq (fun w' hb => Reg.ldS rfl rfl (by simp [World.cell?, (kx w' hb).2]) (Tryz.isAgg3 _)) ?_
      refine Reg.take fh 3 _ 21 (.slice ac (xs.drop g).length (cap - g)) rfl kq kq kq rfl kq kq (fun w' hb => Rcl.slf rfl rfl rfl (hac w')) ?_
      refine Reg.call 4 _ 22 67 _ _ #[.slice ac (xs.drop g).length (cap - g)] rfl kq rfl kq kq rfl kq kq (all_make ac (xs.drop g).length (cap - g) Z.drew) ?_
      rintro e w4 ⟨rfl, rfl⟩
      have hz : Z.drew.heap.size = Wz + 1 := s3
      rw [hz]
      have y0 := heap_alloc_new Z.drew (.cells #[.slice ac (xs.drop g).length (cap - g)] 44)
      have yb := al1 Z.drew (.cells #[.slice ac (xs.drop g).length (cap - g)] 44)
      have ys : (Z.drew.alloc (.cells #[.slice ac (xs.drop g).length (cap - g)] 44)).heap.size = Wz + 2 := by simp [s3]
      rw [show Z.drew.heap.size = Wz + 1 from s3] at y0 yb
      refine ⟨_, Wz + 1, rfl, Nat.le_refl _, yb, ?_⟩
      obtain ⟨Y, hY0⟩ : ∃ Y, Z.drew.alloc (.cells #[.slice ac (xs.drop g).length (cap - g)] 44) = Y := ⟨_, rfl⟩
      rw [hY0] at y0 yb ys ⊢
      have hlm := lens_make 66 99 (Wz + 1) d Y
      unfold ND.v at hlm
      refine Reg.call 5 _ 23 65 _ _ #[.agg NdV, .func (.func 66) #[] #[], .func (.func 99) #[] #[.pointer (some ⟨Wz + 1, 0, none⟩)]] rfl kq rfl kq kq rfl kq kq hlm ?_
      rintro e w5 ⟨rfl, rfl⟩
      clear hlm hY0 kx
      have v1 := al1 Y (.cells NdV 26)
      have u1 := heap_alloc_new Y (.cells NdV 26)
      have v2 := al1 (Y.alloc (.cells NdV 26)) (.cells #[.func (.func 66) #[] #[]] 102)
      have u2 := heap_alloc_new (Y.alloc (.cells NdV 26)) (.cells #[.func (.func 66) #[] #[]] 102)
      have v3 := al1 ((Y.alloc (.cells NdV 26)).alloc (.cells #[.func (.func 66) #[] #[]] 102)) (.cells #[.func (.func 99) #[] #[.pointer (some ⟨Wz + 1, 0, none⟩)]] 104)
      have u3 := heap_alloc_new ((Y.alloc (.cells NdV 26)).alloc (.cells #[.func (.func 66) #[] #[]] 102)) (.cells #[.func (.func 99) #[] #[.pointer (some ⟨Wz + 1, 0, none⟩)]] 104)
      rw [World.size_alloc] at u2
      rw [World.size_alloc, World.size_alloc] at u3
      have e1 := ((nx v2 v3).block Y.heap.size (by simp)).trans u1
      have e2 := (v3.block (Y.heap.size + 1) (by simp)).trans u2
      have vb := nx v1 (nx v2 v3)
      have e0 := (vb.block (Wz + 1) om).trans y0
      have sX : (((Y.alloc (.cells NdV 26)).alloc (.cells #[.func (.func 66) #[] #[]] 102)).alloc (.cells #[.func (.func 99) #[] #[.pointer (some ⟨Wz + 1, 0, none⟩)]] 104)).heap.size = Y.heap.size + 3 := by simp
      have vb1 := yb.trans (vb.mono (show Wz + 1 ≤ Y.heap.size by omega))
      refine ⟨_, Wz + 1, rfl, Nat.le_refl _, vb.mono om, ?_⟩
      obtain ⟨X, hX⟩ : ∃ X, ((Y.alloc (.cells NdV 26)).alloc (.cells #[.func (.func 66) #[] #[]] 102)).alloc (.cells #[.func (.func 99) #[] #[.pointer (some ⟨Wz + 1, 0, none⟩)]] 104) = X := ⟨_, rfl⟩
      rw [hX] at e1 e2 u3 e0 sX vb vb1 ⊢
      refine Reg.done kq ?_
      simp only [NoPan, Reg.ov, Act.put, List.setIfInBounds_toArray, List.set_cons_succ, List.set_cons_zero]
      rw [show Y.heap.size + 1 + 1 = Y.heap.size + 2 from rfl] at u3
      rw [ys] at e1 e2 u3 sX ⊢
      have xb1 := (vb1.block (q9 + 1) (show q9 + 1 < Wz + 1 by omega)).trans z2
      have xb3 := (vb1.block Wz (show Wz < Wz + 1 by omega)).trans n3
      have bX : Below q9 w X := bZ.drew.trans (vb1.mono (show q9 ≤ Wz + 1 by omega))
      have sX2 : Wz + 5 ≤ Xz := by omega
      clear hX v1 v2 v3 u1 u2 vb vb1 yb y0 sX ys n3 z1 z2
      gi_wp2
      refine enter3 (gf := 95) (lb := #[.pointer (some ⟨Wz + 2 + 1, 0, none⟩), .pointer (some ⟨Wz + 2, 0, none⟩), .pointer (some ⟨Wz + 2 + 2, 0, none⟩)]) rfl (enters_of Tryz.func95 kq rfl) ?_
      intro r We hr hrec hdef hszE hbE
      have bE := bX.trans (hbE.mono om)
      have k1 := (hbE.block (q9 + 1) om).trans xb1
      have k3 := (hbE.block Wz om).trans xb3
      have hsl : Hid ((xs.drop g).length = xs.length - g) := hide (List.length_drop)
      obtain ⟨zs, hzs⟩ : ∃ zs, xs.drop g = zs := ⟨_, rfl⟩
      rw [hzs] at hll hsl hxc e0
      have ib0 : IB (Wz + 1) Wz (pE 0) We := ⟨_, k3, by simpa [pls] using ownI_nil We (Wz + 1)⟩
      refine (lens66_in 8 om w (rxOf t) d zs (Wz + 1) Wz (Wz + 2 + 1) (Wz + 2) (Wz + 2 + 2) (Wz + 1) (Xz + 1) _ (fwd_mk t hP.out.vp d w hT) (pts_all hxc hll (Wz + 1)) hll om om om om
        (fun m A => IB (Wz + 1) Wz (pE m) A ∧ A.heap[q9 + 1]? = some (.cells #[.int .i64 (g : Int)] 3) ∧ A.heap[Xz + 1]? = some (.loop r) ∧ A.heap[Xz]? = some (.deferred (some [])) ∧ Below q9 w A)
        (fun m A => False)
        We ((hbE.block _ om).trans e2) ((hbE.block _ om).trans e1) ((hbE.block _ om).trans u3) ((hbE.block _ om).trans e0) bE om om ?stable (fun _ _ _ h _ => h) ?skip ?lt ?own0 ?round ⟨ib0, k1, hrec.out, hdef.out, bE⟩).mono ?_
      case stable =>
        rintro m A A' ⟨j1, j2, j3, j4, j5⟩ hb
        exact ⟨j1.keep hb om, (hb.below.block _ om).trans j2, (hb.below.block _ om).trans j3, (hb.below.block _ om).trans j4, j5.trans (hb.below.mono om)⟩
      case skip =>
        rintro m A hm ⟨j1, j2, j3, j4, j5⟩
        refine ⟨?_, j2, j3, j4, j5⟩
        rw [pls_succ, hm]
        simpa using j1
      case lt =>
        rintro m A ⟨j1, _⟩ k ho
        exact (j1.ow ho).1
      case own0 =>
        rintro k _ ⟨v, t', f', h1, h2⟩
        rw [k3] at h1
        cases h1
        cases h2
      case round =>
        rintro m hm hhit A ⟨j1, j2, j3, j4, j5⟩ hle hBA
        have HP : Hid (pE (m + 1) = pE m ++ [(g : Int) + (m : Int)]) := hide (by rw [pls_succ, hhit]; rfl)
        have hlp := pls_le zs (rxOf t) (fun m => (g : Int) + (m : Int)) m
        obtain ⟨ss, hss⟩ : ∃ ss, pE m = ss := ⟨_, rfl⟩
        rw [hss] at j1 HP hlp
        clear hss hhit
        obtain ⟨i0, hi0, hz0, hz1, hz2⟩ := info_parts info3N
        refine yield3 hr j3 rfl ?_
        gi_wp2
        have hl1 : Xz + 1 < Az := (Array.getElem?_eq_some_iff.1 j3).1
        intro rb
        have hne : ∀ k, k ≠ Xz + 1 → (A.putObj (Xz + 1) (.loop rb)).heap[k]? = A.heap[k]? := fun k hk => World.putObj_heap_other hk
        have nl := j1.notRow j3 fc
        have kib := j1.put (show Wz ≠ Xz + 1 by omega) nl (.loop rb)
        have k2 := (hne (q9 + 1) om).trans j2
        have kr := hide (World.putObj_heap_same (w := A) (o := .loop rb) hl1)
        have ksz : (A.putObj (Xz + 1) (.loop rb)).heap.size = Az := World.putObj_size
        have HNE := hide hne
        have kb : Hid (Below q9 A (A.putObj (Xz + 1) (.loop rb))) := hide (below_put _ _ om)
        have kow : Hid (∀ k, Ow Wz (A.putObj (Xz + 1) (.loop rb)) k ↔ Ow Wz A k) := hide (fun k => ⟨fun h => h.of (hne _ om), fun h => h.of (hne _ om).symm⟩)
        obtain ⟨A1, hA1⟩ : ∃ A1, A.putObj (Xz + 1) (.loop rb) = A1 := ⟨_, rfl⟩
        rw [hA1] at kib k2 kr ksz HNE kb kow ⊢
        obtain ⟨v, k1, ko⟩ := kib
        have c1 : A1.cell? ⟨Wz, 0, none⟩ = some v := by simp [World.cell?, k1]
        have c2 : A1.cell? ⟨q9 + 1, 0, none⟩ = some (.int .i64 (g : Int)) := by simp [World.cell?, k2]
        have HJ1 := hide j1
        have HJ2 := hide j2
        have HJ3 := hide j3
        have HJ4 := hide j4
        have HJ5 := hide j5
        have K1 := hide k1
        have K2 := hide k2
        have NL := hide nl
        have HS := hide ksz
        have kle : Wz + 1 ≤ Bz := by omega
        have kl2 : q9 + 2 ≤ Bz := by omega
        clear hA1 hne j1 j2 j3 j4 j5 k1 k2 nl ksz
        gi_wp2_with (gi_at_builtin; refine wpListIn_append_own_at _ rfl _ _ 46 rfl (Wz + 1) 3 i0 (.int .i64 0) 1 8 Tryz.underlying46 hi0 hz0 hz1 hz2 rfl (by decide) v ss.length (ss.map (Value.int .i64)) rfl (ko.alloc _) ⟨Bz, 0, none⟩ 1 1 [.int .i64 ((g : Int) + (m : Int))] rfl rfl (cell_one_new _ _ _) (by simp [Value.oneCell']) (by unfold maxLen; omega) om (by simp; omega) ?_; intro v' w1 hown' hgrow _ hat; obtain ⟨g', cap', rfl⟩ := ownsRow_succ hown'; obtain ⟨hp1, hib, hkp, how, hsz, hos, htp, hou⟩ := ib_app om kle K1.out ko hown' hgrow hat; have hc1 : w1.cell? ⟨Wz, 0, none⟩ = some v := (by simp [World.cell?, hp1]); have hf1 : w1.frozen? ⟨Wz, 0, none⟩ = false := (by simp [World.frozen?, hp1]); have HIB := hide hib; have HKP := hide hkp; have HOW := hide how; have HSZ := hide hsz; have HOS := hide (And.intro hos (And.intro htp hou)); clear hib hkp how hsz hos htp hou hown' hgrow hat hp1 c1 c2)
        have fin : ∀ W4 : World, IB (Wz + 1) Wz (ss ++ [(g : Int) + (m : Int)]) W4 → (∀ k, k ≠ Wz → k < Bz → ¬ Ow Wz A1 k → W4.heap[k]? = A1.heap[k]?) → (∀ k, k < Bz → Ow Wz W4 k → Ow Wz A1 k) → Bz ≤ W4.heap.size → (W4.os = A1.os ∧ W4.tape = A1.tape ∧ W4.output = A1.output) →
            W4.heap[Xz + 1]? = some (.loop rb) ∧ FrO Wz q9 (Wz + 1) A (W4.putObj (Xz + 1) (.loop r)) ∧ IB (Wz + 1) Wz (pE (m + 1)) (W4.putObj (Xz + 1) (.loop r)) ∧ (W4.putObj (Xz + 1) (.loop r)).heap[q9 + 1]? = some (.cells #[.int .i64 (g : Int)] 3) ∧ (W4.putObj (Xz + 1) (.loop r)).heap[Xz + 1]? = some (.loop r) ∧ (W4.putObj (Xz + 1) (.loop r)).heap[Xz]? = some (.deferred (some [])) ∧ Below q9 w (W4.putObj (Xz + 1) (.loop r)) := by
          intro W4 h1 h2 h3 h4 h5
          have hS := HS.out
          have nlA : ¬ Ow Wz A1 (Xz + 1) := fun h => NL.out ((kow.out _).1 h)
          have m3 := (h2 (Xz + 1) om om nlA).trans kr.out
          have hnp : ∀ k, k ≠ Xz + 1 → (W4.putObj (Xz + 1) (.loop r)).heap[k]? = W4.heap[k]? := fun k hk => World.putObj_heap_other hk
          have hsame : (W4.putObj (Xz + 1) (.loop r)).heap[Xz + 1]? = some (.loop r) := World.putObj_heap_same (Array.getElem?_eq_some_iff.1 m3).1
          have hall : ∀ k, k ≠ Wz → k < Az → ¬ Ow Wz A k → (W4.putObj (Xz + 1) (.loop r)).heap[k]? = A.heap[k]? := fun k hk hk' ho => by
            by_cases he : k = Xz + 1
            · rw [he, hsame]; exact HJ3.out.symm
            · rw [hnp k he, h2 k hk om (fun h => ho ((kow.out _).1 h))]
              exact HNE.out k he
          have hlow : ∀ k, k < Wz → ¬ Ow Wz A k := fun k hk ho => by
            have := (HJ1.out.ow ho).2
            omega
          have b9 : Below q9 A (W4.putObj (Xz + 1) (.loop r)) := ⟨h5.1.trans kb.out.os, h5.2.1.trans kb.out.tape, h5.2.2.trans kb.out.output, by rw [World.putObj_size]; omega, fun k hk => hall k om om (hlow k om)⟩
          refine ⟨m3, ⟨b9.os, b9.tape, b9.output, b9.size, b9.block, fun k hk hk' ho => hall k om hk' ho, fun k hk ho => (kow.out _).1 (h3 k om (ho.of (hnp _ om)))⟩, ?_, (hall _ om om (hlow _ om)).trans HJ2.out, hsame, (hall _ om om (HJ1.out.notRow HJ4.out fc)).trans HJ4.out, HJ5.out.trans b9⟩
          rw [HP.out]
          exact h1.put om (fun h => nlA (h3 _ om h)) _
        obtain ⟨f1, f2, f3, f4, f5, f6, f7⟩ := fin _ HIB.out HKP.out HOW.out HSZ.out HOS.out
        exact ⟨f1, rfl, f2, f3, f4, f5, f6, f7⟩
      rintro e W' ⟨hv, h⟩
      refine ⟨hv, ?_⟩
      rcases h with ⟨j1, j2, j3, j4, j5⟩ | ⟨_, _, h⟩
      · refine .inl ⟨j3, fun r' => ?_⟩
        have hnp : ∀ k, k ≠ Xz + 1 → (W'.putObj (Xz + 1) (.loop r')).heap[k]? = W'.heap[k]? := fun k hk => World.putObj_heap_other hk
        have q1 := j1.put (show Wz ≠ Xz + 1 by omega) (j1.notRow j3 fc) (.loop r')
        have q4 := (hnp Xz om).trans j4
        have q5 := j5.trans (below_put (n := q9) W' (.loop r') (show q9 ≤ Xz + 1 by omega))
        clear j1 j2 j3 j4 j5 hnp
        generalize W'.putObj (Xz + 1) (.loop r') = W9 at *
        obtain ⟨v, q1, q2⟩ := q1
        have c1 : W9.cell? ⟨Wz, 0, none⟩ = some v := by simp [World.cell?, q1]
        have HQ := hide q2
        have HR : Hid (EndP t xs (g : Int) (pE (zs.length + 1))) := hide (.inl ⟨⟨by omega, by omega, hP.out⟩, by rw [Int.toNat_natCast, hzs, hsl.out]⟩)
        clear q1 q2
        gi_wp2
        refine ⟨by simp, .inl ⟨_, _, rfl, run_takeDeferred q4, ?_⟩⟩
        have HK : OwnI (W9.putObj Xz (.deferred none)) q9 v (pE (zs.length + 1)) := (HQ.out.same fun k o hk ho => (World.putObj_heap_other (fun e => HQ.out.notRow q4 fc (by rw [← e]; exact hk))).trans ho).mono om
        refine ⟨_, results_tmp rfl _ _ _, ?_, q5.trans (below_put _ _ om)⟩
        exact ⟨v, rfl, _, HK, HR.out⟩
      · exact h.elim
theorem endsM_any (t : T) (d : ND) (w : World) (htab : Tabs w) (hT : TR w (fun _ => True) t d.v) (hps : (E.pre t t).length ≤ 1000000) (hnb : ∀ p ∈ E.pre t t, E.NodeB p.1) (ao : Option Addr) (cap : Nat) (xs : List Int) (hx : RdC32 w ao xs) (hlen : xs.length ≤ 1000000) (hcap : xs.length ≤ cap) (f : Int) :
    Calls Tryz.prog 32 #[d.v, .slice ao xs.length cap, .int .i64 f] w fun e W' => (∃ v zs, e = .returned v ∧ OwnI W' q9 v zs ∧ EndP t xs f zs) ∧ Below q9 w W' := callsIn_wide.1 (endsM_in t d w htab hT hps hnb ao cap xs hx hlen hcap f)
end
section
open Go.RowKit Go.Shelf
open E (Ps Rx T rxOf Vp)
attribute [local go_sem] Oper.semAt_some
def BegP (t : T) (xs : List Int) (f : Int) (zs : List Int) : Prop :=
  ((0 ≤ f ∧ f ≤ (xs.length : Int) ∧ E.PlainP t) ∧ zs = (pls (xs.take f.toNat).reverse (rxOf t).rev (fun m => f - (m : Int)) (f.toNat + 1)).reverse) ∨ (¬ (0 ≤ f ∧ f ≤ (xs.length : Int) ∧ E.PlainP t) ∧ zs = [])
theorem grownBy_ints {w : World} {g n : Nat} (d : Array Int) : w.grownBy («Sort».putRow (Value.int .i64) («Sort».ahead w n) g 0 d) (some g) := by
  unfold «Sort».putRow «Sort».mapBlock «Sort».ahead
  refine ⟨rfl, rfl, rfl, by simp, fun k hk hne => ?_⟩
  have hk' : g ≠ k := fun e => hne (by rw [e])
  simp [Array.getElem?_modify, hk']
theorem rev_row (w : World) (B : Nat) (v : Value) (ss : List Int) (ho : OwnI w B v ss) (hl : ss.length ≤ 10000000) : Calls Tryz.prog 71 #[v] w fun e w' => e = .returned (.tuple #[]) ∧ OwnI w' B v ss.reverse ∧ w.grownBy w' v.ownBlock := by
  by_cases hv : v = .slice none 0 0
  · subst hv
    have hs : ss = [] := by
      obtain ⟨_, ⟨_, h⟩ | ⟨g, cap, cur, e, _⟩⟩ := ho
      · exact List.eq_nil_of_length_eq_zero h
      · cases e
    subst hs
    refine (Any.slices_Reverse_int_empty lays112 none 0 w).mono ?_
    rintro e w' ⟨rfl, rfl⟩
    exact ⟨rfl, by simpa using ho, ⟨rfl, rfl, rfl, Nat.le_refl _, fun _ _ _ => rfl⟩⟩
  · obtain ⟨g, cap, rfl, hbg, hgl, hncap, hcm, _, hH⟩ := Lib.holds_of_ownsRow ho hv
    refine (Any.slices_Reverse_int lays112 g 0 cap ss w hH om).mono ?_
    rintro e w' ⟨rfl, q, rfl⟩
    refine ⟨rfl, ?_, ?_⟩
    · have hc := Lib.ownsRow_putRow (q := q) (k := ss.length) (ys := ss.reverse) ho (by simp) (Nat.le_refl _)
      unfold OwnI
      rw [List.length_reverse]
      have ht : ss.reverse.take ss.length = ss.reverse := List.take_of_length_le (by simp)
      rw [ht] at hc
      exact hc
    · exact grownBy_ints _
set_option maxRecDepth 100000 in
set_option maxHeartbeats 4000000 in
theorem begsM_in (t : T) (d : ND) (w : World) (htab : Tabs w) (hT : TR w (fun _ => True) t d.v) (hps : (E.pre t t).length ≤ 1000000) (hnb : ∀ p ∈ E.pre t t, E.NodeB p.1) (ao : Option Addr) (cap : Nat) (xs : List Int) (hx : RdC32 w ao xs) (hlen : xs.length ≤ 1000000) (hcap : xs.length ≤ cap) (f : Int) :
    CallsIn Fence.wide 9 Tryz.prog 35 #[d.v, .slice ao xs.length cap, .int .i64 f] w fun e W' => (∃ v zs, e = .returned v ∧ OwnI W' q9 v zs ∧ BegP t xs f zs) ∧ Below q9 w W' := by
  have hpl := fun W hb => plain_any t d W (htab.later hb) (TR.later (fun k hk => Below.block hb k hk) _ hT) hps hnb
  have hwi := within_any ao xs.length cap f
  unfold ND.v at hpl ⊢
  refine callsIn_of_wp_marks Tryz.func35 rfl trivial ?_ rfl
  simp only [Tryz.ntmps35, List.size_toArray, List.length_cons, List.length_nil, Nat.reduceAdd, Nat.reduceSub, Array.replicate_succ, Array.replicate_zero, List.push_toArray, List.append_toArray, List.nil_append, List.cons_append]
  have a1 := al1 w (.cells NdV 26)
  have n1 := heap_alloc_new w (.cells NdV 26)
  have a2 := al1 (w.alloc (.cells NdV 26)) (.cells #[.int .i64 f] 3)
  have n2 := heap_alloc_new (w.alloc (.cells NdV 26)) (.cells #[.int .i64 f] 3)
  have s2 : ((w.alloc (.cells NdV 26)).alloc (.cells #[.int .i64 f] 3)).heap.size = q9 + 2 := by simp
  rw [World.size_alloc] at n2
  have m1 := (a2.block q9 (by simp)).trans n1
  have b3 := nx a1 a2
  have hp := hpl _ b3
  have hw := hwi ((w.alloc (.cells NdV 26)).alloc (.cells #[.int .i64 f] 3))
  clear hpl n1 a1 a2 hwi
  gi_wp2_with fail
  refine ⟨trivial, (callsIn_wide.2 hw).mono ?_⟩
  rintro e W0 ⟨⟨b, rfl, hb⟩, rfl⟩
  have HB := hide hb
  clear hw hb
  cases b with
  | false =>
    have hI : Hid (¬ (0 ≤ f ∧ f ≤ (xs.length : Int))) := hide (fun h => by have := HB.out.2 h; cases this)
    clear HB
    gi_wp2
    refine ⟨trivial, ?_⟩
    gi_wp2
    exact ⟨_, results_tmp rfl _ _ _, ⟨_, [], rfl, ownI_nil _ _, .inr ⟨fun h => hI.out ⟨h.1, h.2.1⟩, rfl⟩⟩, b3⟩
  | true =>
    have hI := hide (HB.out.1 rfl)
    clear HB
    gi_wp2_with fail
    refine ⟨trivial, (callsIn_wide.2 hp).mono ?_⟩
    rintro e W1 ⟨⟨b, rfl, hb⟩, hb1⟩
    have hs1 := hb1.size
    rw [s2] at hs1
    have x1 := (hb1.block q9 om).trans m1
    have x2 := (hb1.block (q9 + 1) om).trans n2
    have bW := nx b3 hb1
    have HB := hide hb
    clear hp hb hb1 m1 n2 b3 s2
    cases b with
    | false =>
      have hP : Hid (¬ E.PlainP t) := hide (fun h => by have := HB.out.2 h; cases this)
      clear HB x1 x2
      gi_wp2
      exact ⟨_, results_tmp rfl _ _ _, ⟨_, [], rfl, ownI_nil _ _, .inr ⟨fun h => hP.out h.2.2, rfl⟩⟩, bW⟩
    | true =>
      have hP := hide (HB.out.1 rfl)
      clear HB
      obtain ⟨g, hg⟩ : ∃ g : Nat, f = (g : Int) := ⟨f.toNat, by have := hI.out.1; omega⟩
      have hgl : g ≤ xs.length := by have := hI.out.2; omega
      subst hg
      clear hI
      obtain ⟨ac, hac, hxc⟩ := cut_to8 hx g hgl hcap
      have hll : (xs.take g).length ≤ 1000000 := by rw [List.length_take]; omega
      gi_wp2
      have a3 := al1 W1 (.cells #[.slice none 0 0] 46)
      have n3 := heap_alloc_new W1 (.cells #[.slice none 0 0] 46)
      have s3 : (W1.alloc (.cells #[.slice none 0 0] 46)).heap.size = Wz + 1 := by simp
      have z1 := (a3.block q9 om).trans x1
      have z2 := (a3.block (q9 + 1) om).trans x2
      have bZ := bW.trans (a3.mono (show q9 ≤ Wz by omega))
      obtain ⟨Z, hZ⟩ : ∃ Z, W1.alloc (.cells #[.slice none 0 0] 46) = Z := ⟨_, rfl⟩
      rw [hZ] at a3 n3 s3 z1 z2 bZ ⊢
      clear hZ x1 x2 a3
      have kx : ∀ w', Below (Wz + 1) Z.drew w' → w'.heap[q9]? = some (.cells NdV 26) ∧ w'.heap[q9 + 1]? = some (.cells #[.int .i64 (g : Int)] 3) := fun w' hb => ⟨(hb.block _ om).trans z1, (hb.block _ om).trans z2⟩
      refine noPan (wpIn_wide.2 ?_)
      refine Reg.start (B := Wz + 1) kq ?_
      refine Reg.take fh 0 _ 18 (.agg NdV) rfl kq kq kq rfl kq kq (fun w' hb => Reg.ldN rfl rfl (kx w' hb).1) ?_
      refine Reg.take fh 1 _ 19 (.slice ao xs.length cap) rfl kq kq kq rfl kq kq (fun w' hb => Rcl.mvE rfl rfl) ?_
      refine Reg.take fh 2 _ 20 (.int .i64 (g : Int)) rfl kq kq kq rfl kq kq (fun w' hb => Reg.ldS rfl rfl (by simp [World.cell?, (kx w' hb).2]) (Tryz.isAgg3 _)) ?_
      refine Reg.take fh 3 _ 21 (.slice ac (xs.take g).length (cap - 0)) rfl kq kq kq rfl kq kq (fun w' hb => Rcl.slt rfl rfl rfl (hac w')) ?_
      refine Reg.call 4 _ 22 70 _ _ #[.slice ac (xs.take g).length (cap - 0)] rfl kq rfl kq kq rfl kq kq (back_make ac (xs.take g).length (cap - 0) Z.drew) ?_
      rintro e w4 ⟨rfl, rfl⟩
      have hz : Z.drew.heap.size = Wz + 1 := s3
      rw [hz]
      have y0 := heap_alloc_new Z.drew (.cells #[.slice ac (xs.take g).length (cap - 0)] 44)
      have yb := al1 Z.drew (.cells #[.slice ac (xs.take g).length (cap - 0)] 44)
      have ys : (Z.drew.alloc (.cells #[.slice ac (xs.take g).length (cap - 0)] 44)).heap.size = Wz + 2 := by simp [s3]
      rw [show Z.drew.heap.size = Wz + 1 from s3] at y0 yb
      refine ⟨_, Wz + 1, rfl, Nat.le_refl _, yb, ?_⟩
      obtain ⟨Y, hY0⟩ : ∃ Y, Z.drew.alloc (.cells #[.slice ac (xs.take g).length (cap - 0)] 44) = Y := ⟨_, rfl⟩
      rw [hY0] at y0 yb ys ⊢
      have hlm := lens_make 69 101 (Wz + 1) d Y
      unfold ND.v at hlm
      refine Reg.call 5 _ 23 65 _ _ #[.agg NdV, .func (.func 69) #[] #[], .func (.func 101) #[] #[.pointer (some ⟨Wz + 1, 0, none⟩)]] rfl kq rfl kq kq rfl kq kq hlm ?_
      rintro e w5 ⟨rfl, rfl⟩
      clear hlm hY0 kx
      have v1 := al1 Y (.cells NdV 26)
      have u1 := heap_alloc_new Y (.cells NdV 26)
      have v2 := al1 (Y.alloc (.cells NdV 26)) (.cells #[.func (.func 69) #[] #[]] 102)
      have u2 := heap_alloc_new (Y.alloc (.cells NdV 26)) (.cells #[.func (.func 69) #[] #[]] 102)
      have v3 := al1 ((Y.alloc (.cells NdV 26)).alloc (.cells #[.func (.func 69) #[] #[]] 102)) (.cells #[.func (.func 101) #[] #[.pointer (some ⟨Wz + 1, 0, none⟩)]] 104)
      have u3 := heap_alloc_new ((Y.alloc (.cells NdV 26)).alloc (.cells #[.func (.func 69) #[] #[]] 102)) (.cells #[.func (.func 101) #[] #[.pointer (some ⟨Wz + 1, 0, none⟩)]] 104)
      rw [World.size_alloc] at u2
      rw [World.size_alloc, World.size_alloc] at u3
      have e1 := ((nx v2 v3).block Y.heap.size (by simp)).trans u1
      have e2 := (v3.block (Y.heap.size + 1) (by simp)).trans u2
      have vb := nx v1 (nx v2 v3)
      have e0 := (vb.block (Wz + 1) om).trans y0
      have sX : (((Y.alloc (.cells NdV 26)).alloc (.cells #[.func (.func 69) #[] #[]] 102)).alloc (.cells #[.func (.func 101) #[] #[.pointer (some ⟨Wz + 1, 0, none⟩)]] 104)).heap.size = Y.heap.size + 3 := by simp
      have vb1 := yb.trans (vb.mono (show Wz + 1 ≤ Y.heap.size by omega))
      refine ⟨_, Wz + 1, rfl, Nat.le_refl _, vb.mono om, ?_⟩
      obtain ⟨X, hX⟩ : ∃ X, ((Y.alloc (.cells NdV 26)).alloc (.cells #[.func (.func 69) #[] #[]] 102)).alloc (.cells #[.func (.func 101) #[] #[.pointer (some ⟨Wz + 1, 0, none⟩)]] 104) = X := ⟨_, rfl⟩
      rw [hX] at e1 e2 u3 e0 sX vb vb1 ⊢
      refine Reg.done kq ?_
      simp only [NoPan, Reg.ov, Act.put, List.setIfInBounds_toArray, List.set_cons_succ, List.set_cons_zero]
      rw [show Y.heap.size + 1 + 1 = Y.heap.size + 2 from rfl] at u3
      rw [ys] at e1 e2 u3 sX ⊢
      have xb1 := (vb1.block (q9 + 1) (show q9 + 1 < Wz + 1 by omega)).trans z2
      have xb3 := (vb1.block Wz (show Wz < Wz + 1 by omega)).trans n3
      have bX : Below q9 w X := bZ.drew.trans (vb1.mono (show q9 ≤ Wz + 1 by omega))
      have sX2 : Wz + 5 ≤ Xz := by omega
      clear hX v1 v2 v3 u1 u2 vb vb1 yb y0 sX ys n3 z1 z2
      gi_wp2
      refine enter3 (gf := 95) (lb := #[.pointer (some ⟨Wz + 2 + 1, 0, none⟩), .pointer (some ⟨Wz + 2, 0, none⟩), .pointer (some ⟨Wz + 2 + 2, 0, none⟩)]) rfl (enters_of Tryz.func95 kq rfl) ?_
      intro r We hr hrec hdef hszE hbE
      have bE := bX.trans (hbE.mono om)
      have k1 := (hbE.block (q9 + 1) om).trans xb1
      have k3 := (hbE.block Wz om).trans xb3
      have hsl : Hid ((xs.take g).length = g) := hide (by rw [List.length_take]; omega)
      obtain ⟨zs, hzs⟩ : ∃ zs, xs.take g = zs := ⟨_, rfl⟩
      rw [hzs] at hll hsl hxc e0
      have ib0 : IB (Wz + 1) Wz (pR 0) We := ⟨_, k3, by simpa [pls] using ownI_nil We (Wz + 1)⟩
      refine (lens69_in 8 om w (rxOf t).rev d zs.reverse (Wz + 1) Wz (Wz + 2 + 1) (Wz + 2) (Wz + 2 + 2) (Wz + 1) (Xz + 1) _ (bwd_mk t hP.out.vp d w hT) (pts_back hxc hll (Wz + 1)) (by rw [List.length_reverse]; exact hll) om om om om
        (fun m A => IB (Wz + 1) Wz (pR m) A ∧ A.heap[q9 + 1]? = some (.cells #[.int .i64 (g : Int)] 3) ∧ A.heap[Xz + 1]? = some (.loop r) ∧ A.heap[Xz]? = some (.deferred (some [])) ∧ Below q9 w A)
        (fun m A => False)
        We ((hbE.block _ om).trans e2) ((hbE.block _ om).trans e1) ((hbE.block _ om).trans u3) ((hbE.block _ om).trans e0) bE om om ?stable (fun _ _ _ h _ => h) ?skip ?lt ?own0 ?round ⟨ib0, k1, hrec.out, hdef.out, bE⟩).mono ?_
      case stable =>
        rintro m A A' ⟨j1, j2, j3, j4, j5⟩ hb
        exact ⟨j1.keep hb om, (hb.below.block _ om).trans j2, (hb.below.block _ om).trans j3, (hb.below.block _ om).trans j4, j5.trans (hb.below.mono om)⟩
      case skip =>
        rintro m A hm ⟨j1, j2, j3, j4, j5⟩
        refine ⟨?_, j2, j3, j4, j5⟩
        rw [pls_succ, hm]
        simpa using j1
      case lt =>
        rintro m A ⟨j1, _⟩ k ho
        exact (j1.ow ho).1
      case own0 =>
        rintro k _ ⟨v, t', f', h1, h2⟩
        rw [k3] at h1
        cases h1
        cases h2
      case round =>
        rintro m hm hhit A ⟨j1, j2, j3, j4, j5⟩ hle hBA
        have HP : Hid (pR (m + 1) = pR m ++ [(g : Int) - (m : Int)]) := hide (by rw [pls_succ, hhit]; rfl)
        have hlp := pls_le zs.reverse (rxOf t).rev (fun m => (g : Int) - (m : Int)) m
        obtain ⟨ss, hss⟩ : ∃ ss, pR m = ss := ⟨_, rfl⟩
        rw [hss] at j1 HP hlp
        clear hss hhit
        rw [List.length_reverse, hsl.out] at hm
        obtain ⟨i0, hi0, hz0, hz1, hz2⟩ := info_parts info3N
        refine yield3 hr j3 rfl ?_
        gi_wp2
        have hl1 : Xz + 1 < Az := (Array.getElem?_eq_some_iff.1 j3).1
        intro rb
        have hne : ∀ k, k ≠ Xz + 1 → (A.putObj (Xz + 1) (.loop rb)).heap[k]? = A.heap[k]? := fun k hk => World.putObj_heap_other hk
        have nl := j1.notRow j3 fc
        have kib := j1.put (show Wz ≠ Xz + 1 by omega) nl (.loop rb)
        have k2 := (hne (q9 + 1) om).trans j2
        have kr := hide (World.putObj_heap_same (w := A) (o := .loop rb) hl1)
        have ksz : (A.putObj (Xz + 1) (.loop rb)).heap.size = Az := World.putObj_size
        have HNE := hide hne
        have kb : Hid (Below q9 A (A.putObj (Xz + 1) (.loop rb))) := hide (below_put _ _ om)
        have kow : Hid (∀ k, Ow Wz (A.putObj (Xz + 1) (.loop rb)) k ↔ Ow Wz A k) := hide (fun k => ⟨fun h => h.of (hne _ om), fun h => h.of (hne _ om).symm⟩)
        obtain ⟨A1, hA1⟩ : ∃ A1, A.putObj (Xz + 1) (.loop rb) = A1 := ⟨_, rfl⟩
        rw [hA1] at kib k2 kr ksz HNE kb kow ⊢
        obtain ⟨v, k1, ko⟩ := kib
        have c1 : A1.cell? ⟨Wz, 0, none⟩ = some v := by simp [World.cell?, k1]
        have c2 : A1.cell? ⟨q9 + 1, 0, none⟩ = some (.int .i64 (g : Int)) := by simp [World.cell?, k2]
        have HJ1 := hide j1
        have HJ2 := hide j2
        have HJ3 := hide j3
        have HJ4 := hide j4
        have HJ5 := hide j5
        have K1 := hide k1
        have K2 := hide k2
        have NL := hide nl
        have HS := hide ksz
        have kle : Wz + 1 ≤ Bz := by omega
        have kl2 : q9 + 2 ≤ Bz := by omega
        clear hA1 hne j1 j2 j3 j4 j5 k1 k2 nl ksz
        gi_wp2_with (gi_at_builtin; refine wpListIn_append_own_at _ rfl _ _ 46 rfl (Wz + 1) 3 i0 (.int .i64 0) 1 8 Tryz.underlying46 hi0 hz0 hz1 hz2 rfl (by decide) v ss.length (ss.map (Value.int .i64)) rfl (ko.alloc _) ⟨Bz, 0, none⟩ 1 1 [.int .i64 ((g : Int) - (m : Int))] rfl rfl (cell_one_new _ _ _) (by simp [Value.oneCell']) (by unfold maxLen; omega) om (by simp; omega) ?_; intro v' w1 hown' hgrow _ hat; obtain ⟨g', cap', rfl⟩ := ownsRow_succ hown'; obtain ⟨hp1, hib, hkp, how, hsz, hos, htp, hou⟩ := ib_app om kle K1.out ko hown' hgrow hat; have hc1 : w1.cell? ⟨Wz, 0, none⟩ = some v := (by simp [World.cell?, hp1]); have hf1 : w1.frozen? ⟨Wz, 0, none⟩ = false := (by simp [World.frozen?, hp1]); have HIB := hide hib; have HKP := hide hkp; have HOW := hide how; have HSZ := hide hsz; have HOS := hide (And.intro hos (And.intro htp hou)); clear hib hkp how hsz hos htp hou hown' hgrow hat hp1 c1 c2)
        have fin : ∀ W4 : World, IB (Wz + 1) Wz (ss ++ [(g : Int) - (m : Int)]) W4 → (∀ k, k ≠ Wz → k < Bz → ¬ Ow Wz A1 k → W4.heap[k]? = A1.heap[k]?) → (∀ k, k < Bz → Ow Wz W4 k → Ow Wz A1 k) → Bz ≤ W4.heap.size → (W4.os = A1.os ∧ W4.tape = A1.tape ∧ W4.output = A1.output) →
            W4.heap[Xz + 1]? = some (.loop rb) ∧ FrO Wz q9 (Wz + 1) A (W4.putObj (Xz + 1) (.loop r)) ∧ IB (Wz + 1) Wz (pR (m + 1)) (W4.putObj (Xz + 1) (.loop r)) ∧ (W4.putObj (Xz + 1) (.loop r)).heap[q9 + 1]? = some (.cells #[.int .i64 (g : Int)] 3) ∧ (W4.putObj (Xz + 1) (.loop r)).heap[Xz + 1]? = some (.loop r) ∧ (W4.putObj (Xz + 1) (.loop r)).heap[Xz]? = some (.deferred (some [])) ∧ Below q9 w (W4.putObj (Xz + 1) (.loop r)) := by
          intro W4 h1 h2 h3 h4 h5
          have hS := HS.out
          have nlA : ¬ Ow Wz A1 (Xz + 1) := fun h => NL.out ((kow.out _).1 h)
          have m3 := (h2 (Xz + 1) om om nlA).trans kr.out
          have hnp : ∀ k, k ≠ Xz + 1 → (W4.putObj (Xz + 1) (.loop r)).heap[k]? = W4.heap[k]? := fun k hk => World.putObj_heap_other hk
          have hsame : (W4.putObj (Xz + 1) (.loop r)).heap[Xz + 1]? = some (.loop r) := World.putObj_heap_same (Array.getElem?_eq_some_iff.1 m3).1
          have hall : ∀ k, k ≠ Wz → k < Az → ¬ Ow Wz A k → (W4.putObj (Xz + 1) (.loop r)).heap[k]? = A.heap[k]? := fun k hk hk' ho => by
            by_cases he : k = Xz + 1
            · rw [he, hsame]; exact HJ3.out.symm
            · rw [hnp k he, h2 k hk om (fun h => ho ((kow.out _).1 h))]
              exact HNE.out k he
          have hlow : ∀ k, k < Wz → ¬ Ow Wz A k := fun k hk ho => by
            have := (HJ1.out.ow ho).2
            omega
          have b9 : Below q9 A (W4.putObj (Xz + 1) (.loop r)) := ⟨h5.1.trans kb.out.os, h5.2.1.trans kb.out.tape, h5.2.2.trans kb.out.output, by rw [World.putObj_size]; omega, fun k hk => hall k om om (hlow k om)⟩
          refine ⟨m3, ⟨b9.os, b9.tape, b9.output, b9.size, b9.block, fun k hk hk' ho => hall k om hk' ho, fun k hk ho => (kow.out _).1 (h3 k om (ho.of (hnp _ om)))⟩, ?_, (hall _ om om (hlow _ om)).trans HJ2.out, hsame, (hall _ om om (HJ1.out.notRow HJ4.out fc)).trans HJ4.out, HJ5.out.trans b9⟩
          rw [HP.out]
          exact h1.put om (fun h => nlA (h3 _ om h)) _
        obtain ⟨f1, f2, f3, f4, f5, f6, f7⟩ := fin _ HIB.out HKP.out HOW.out HSZ.out HOS.out
        exact ⟨f1, rfl, f2, f3, f4, f5, f6, f7⟩
      rintro e W' ⟨hv, h⟩
      refine ⟨hv, ?_⟩
      rcases h with ⟨j1, j2, j3, j4, j5⟩ | ⟨_, _, h⟩
      · refine .inl ⟨j3, fun r' => ?_⟩
        have hnp : ∀ k, k ≠ Xz + 1 → (W'.putObj (Xz + 1) (.loop r')).heap[k]? = W'.heap[k]? := fun k hk => World.putObj_heap_other hk
        have q1 := j1.put (show Wz ≠ Xz + 1 by omega) (j1.notRow j3 fc) (.loop r')
        have q4 := (hnp Xz om).trans j4
        have q5 := j5.trans (below_put (n := q9) W' (.loop r') (show q9 ≤ Xz + 1 by omega))
        have q6 : Wz + 1 ≤ (W'.putObj (Xz + 1) (.loop r')).heap.size := by
          have := (Array.getElem?_eq_some_iff.1 j3).1
          rw [World.putObj_size]
          omega
        clear j1 j2 j3 j4 j5 hnp
        generalize W'.putObj (Xz + 1) (.loop r') = W9 at *
        obtain ⟨v, q1, q2⟩ := q1
        have c1 : W9.cell? ⟨Wz, 0, none⟩ = some v := by simp [World.cell?, q1]
        have HR : Hid (BegP t xs (g : Int) (pR (zs.reverse.length + 1)).reverse) := hide (.inl ⟨⟨by omega, by omega, hP.out⟩, by rw [Int.toNat_natCast, hzs, List.length_reverse, hsl.out]⟩)
        have hpl2 := pls_le zs.reverse (rxOf t).rev (fun m => (g : Int) - (m : Int)) (zs.reverse.length + 1)
        rw [List.length_reverse] at hpl2 HR q2
        obtain ⟨ss, hss⟩ : ∃ ss, pR (zs.length + 1) = ss := ⟨_, rfl⟩
        rw [hss] at hpl2 HR q2
        clear hss
        have hrv := rev_row W9 (Wz + 1) v ss q2 om
        have Q1 := hide q1
        have Q2 := hide q2
        have Q4 := hide q4
        clear q1 q2 q4
        gi_wp2_with fail
        refine ⟨trivial, (callsIn_wide.2 hrv).mono ?_⟩
        rintro e Wa ⟨rfl, o1, hg⟩
        have hn1 : v.ownBlock ≠ some Wz := fun e => by
          have := (Q2.out.lt e).2
          omega
        have p1 := (hg.block Wz om (fun e => hn1 e.symm)).trans Q1.out
        have p4 := (hg.block Xz (Array.getElem?_eq_some_iff.1 Q4.out).1 (fun e => Q2.out.notRow Q4.out fc e.symm)).trans Q4.out
        have p5 : Below q9 w Wa := q5.trans ⟨hg.os, hg.tape, hg.output, hg.size, fun k hk => hg.block k om (fun e => by have := (Q2.out.lt e.symm).2; omega)⟩
        have c2 : Wa.cell? ⟨Wz, 0, none⟩ = some v := by simp [World.cell?, p1]
        have HO := hide o1
        clear hrv c1 hg p1 o1
        gi_wp2
        refine ⟨by simp, .inl ⟨_, _, rfl, run_takeDeferred p4, ?_⟩⟩
        have HK : OwnI (Wa.putObj Xz (.deferred none)) q9 v ss.reverse := (HO.out.same fun k o hk ho => (World.putObj_heap_other (fun e => HO.out.notRow p4 fc (by rw [← e]; exact hk))).trans ho).mono om
        refine ⟨_, results_tmp rfl _ _ _, ?_, p5.trans (below_put _ _ om)⟩
        exact ⟨v, _, rfl, HK, HR.out⟩
      · exact h.elim
theorem begsM_any (t : T) (d : ND) (w : World) (htab : Tabs w) (hT : TR w (fun _ => True) t d.v) (hps : (E.pre t t).length ≤ 1000000) (hnb : ∀ p ∈ E.pre t t, E.NodeB p.1) (ao : Option Addr) (cap : Nat) (xs : List Int) (hx : RdC32 w ao xs) (hlen : xs.length ≤ 1000000) (hcap : xs.length ≤ cap) (f : Int) :
    Calls Tryz.prog 35 #[d.v, .slice ao xs.length cap, .int .i64 f] w fun e W' => (∃ v zs, e = .returned v ∧ OwnI W' q9 v zs ∧ BegP t xs f zs) ∧ Below q9 w W' := callsIn_wide.1 (begsM_in t d w htab hT hps hnb ao cap xs hx hlen hcap f)
end
section
open Go.RowKit Go.Shelf
open E (T)
def tA : T := .mk 1 0 [(97,97)] [] []
theorem AnsP.ok {t : T} {w w' : World} {e : Ending} (h : AnsP (.ok t) w e w') : Below q9 w w' ∧ ∃ d : ND, e = .returned (.tuple #[d.v, .int .i64 0, .int .i64 0]) ∧ TR w' (fun _ => True) t d.v := by
  obtain ⟨hb, ⟨t', v, h1, h2, h3⟩ | ⟨c, k, h1, _⟩⟩ := h
  · cases h1
    have h4 := TR.mono (ok' := fun _ => True) (fun _ _ _ => trivial) t h3
    obtain ⟨d, rfl, _⟩ := h4.nd
    exact ⟨hb, d, h2, h4⟩
  · cases h1
end
section
open Go.RowKit Go.Shelf
open E (Ps Rx T rxOf Vp)
attribute [local go_sem] Oper.semAt_some
def tS : T := .mk 6 0 [] [] [tA]
theorem parse8 : E.parse [39, 97, 42] = .ok tS := by rfl
theorem pre8 : E.pre tS tS = [(tS, tS), (tA, tA)] := by
  simp [tS, tA, E.pre, E.preK, T.kids]
theorem isp8 : E.IsP tS := by
  unfold E.IsP
  rw [pre8]
  refine ⟨by simp, fun p hp => ?_⟩
  simp only [List.mem_cons, List.not_mem_nil, or_false] at hp
  have c1 : U.S.Canon [((97 : Int), (97 : Int))] := U.S.canon_one (by decide)
  rcases hp with rfl | rfl
  · exact ⟨rfl, .inr (.inr ⟨by decide, by decide, rfl, rfl⟩)⟩
  · exact ⟨rfl, .inl ⟨rfl, rfl, by decide, c1⟩⟩
theorem plain8 : E.PlainP tS := ⟨isp8, by rw [pre8]; rfl⟩
theorem nodeB8 : ∀ p ∈ E.pre tS tS, E.NodeB p.1 := by
  rw [pre8]
  intro p hp
  simp only [List.mem_cons, List.not_mem_nil, or_false] at hp
  rcases hp with rfl | rfl <;> simp [E.NodeB, tS, tA, T.set, T.name, T.kids]
theorem ends8 {zs : List Int} (h : EndP tS [97, 97, 98] 0 zs) : zs = [0, 1, 2] := by
  rcases h with ⟨_, rfl⟩ | ⟨h, _⟩
  · decide
  · exact absurd ⟨by decide, by decide, plain8⟩ h
theorem begs8 {zs : List Int} (h : BegP tS [97, 97] 2 zs) : zs = [0, 1, 2] := by
  rcases h with ⟨_, rfl⟩ | ⟨h, _⟩
  · decide
  · exact absurd ⟨by decide, by decide, plain8⟩ h
theorem all8n : AllP tS [] := ⟨plain8, (hit_iff [] (rxOf tS) 0 (by decide)).1 (by decide)⟩
theorem all8b : ¬ AllP tS [98] := fun h => by
  have := (hit_iff [98] (rxOf tS) 1 (by decide)).2 h.2
  revert this
  decide
theorem rdc_new (w : World) (xs : List Int) : RdC32 (w.alloc (.cells ⟨xs.map (Value.int .i32)⟩ 21)) (some ⟨q9, 0, none⟩) xs := fun i hi => ⟨_, _, rfl, by
  have h := heap_alloc_new w (.cells ⟨xs.map (Value.int .i32)⟩ 21)
  unfold World.cell?
  rw [show (⟨q9, 0 + i, none⟩ : Addr).block = q9 from rfl, h]
  simp [hi]⟩
theorem three_row {w : World} {B : Nat} {v : Value} (h : OwnI w B v [0, 1, 2]) : ∃ g cap, v = .slice (some ⟨g, 0, none⟩) 3 cap ∧ w.cell? ⟨g, 0, none⟩ = some (.int .i64 0) ∧ w.cell? ⟨g, 2, none⟩ = some (.int .i64 2) := by
  obtain ⟨g, cap, rfl, _, _, _, _, _, hH⟩ := Lib.holds_of_ownsRow h (by rintro rfl; obtain ⟨_, ⟨_, h⟩ | ⟨_, _, _, e, _⟩⟩ := h; cases h; cases e)
  have h0 := hH 0 (by decide)
  have h2 := hH 2 (by decide)
  exact ⟨g, cap, rfl, by simpa using h0.1, by simpa using h2.1⟩
set_option maxRecDepth 100000 in
set_option maxHeartbeats 4000000 in
theorem known8_any (w : World) (ht : Tabs w) : Calls Tryz.prog 29 #[] w fun e w' => e = .returned (.bool true) ∧ Below q9 w w' := by
  have h1 := parse_any ⟨#[39, 97, 42]⟩ (by decide) w ht
  rw [show E.parse (bts ⟨#[39, 97, 42]⟩) = _ from parse8] at h1
  have hps : (E.pre tS tS).length ≤ 1000000 := by rw [pre8]; decide
  go_enter Tryz.func29, Tryz.ntmps29
  go_wp2_with fail
  refine h1.mono ?_
  intro e w1 ha
  obtain ⟨hb1, d, rfl, htr⟩ := ha.ok
  clear h1 ha
  have hc := fun (W : World) (hb : Below w1.heap.size w1 W) => (⟨ht.later (nx hb1 hb), TR.later (fun k hk => Below.block hb k hk) _ htr⟩ : Tabs W ∧ TR W (fun _ => True) tS d.v)
  have b0 := al1 w1 (.cells NdV 26)
  have n0 := heap_alloc_new w1 (.cells NdV 26)
  have s0 : (w1.alloc (.cells NdV 26)).heap.size = w1.heap.size + 1 := by simp
  have b1 := al1 (w1.alloc (.cells NdV 26)) (.cells #[.int .i32 97, .int .i32 97, .int .i32 98] 21)
  have r1 := rdc_new (w1.alloc (.cells NdV 26)) [97, 97, 98]
  rw [s0] at r1
  have bA := nx b0 b1
  have hcall := endsM_any tS d _ (hc _ bA).1 (hc _ bA).2 hps nodeB8 (some ⟨w1.heap.size + 1, 0, none⟩) 3 [97, 97, 98] r1 (by decide) (by decide) 0
  have xA := (b1.block w1.heap.size (by simp)).trans n0
  have sA : ((w1.alloc (.cells NdV 26)).alloc (.cells #[.int .i32 97, .int .i32 97, .int .i32 98] 21)).heap.size = w1.heap.size + 2 := by simp
  rw [show ([97, 97, 98] : List Int).length = 3 from rfl] at hcall
  unfold ND.v at hcall ⊢
  clear r1 n0 b0 b1 s0
  go_wp2_with fail
  refine hcall.mono ?_
  rintro e W2 ⟨⟨v, zs, rfl, ho, he⟩, hb2⟩
  have hz := ends8 he
  subst hz
  obtain ⟨g, cap, rfl, c0, c2⟩ := three_row ho
  have B2 := nx bA hb2
  have x2 := (hb2.block w1.heap.size om).trans xA
  have z2 := hb2.size
  rw [sA] at z2
  clear hcall he ho xA bA hb2 sA
  have hcall := allM_any tS d W2 (hc _ B2).1 (hc _ B2).2 hps nodeB8 none 0 [] (fun i hi => by simp at hi) (by simp)
  rw [List.length_nil] at hcall
  unfold ND.v at hcall
  obtain ⟨q0, q1, q2, q3, q4⟩ := cells_five x2
  go_wp2_with fail
  refine hcall.mono ?_
  rintro e W3 ⟨⟨b, rfl, hb⟩, hb3⟩
  have hbt := hb.2 all8n
  subst hbt
  have B3 := nx B2 hb3
  have x3 := (hb3.block w1.heap.size om).trans x2
  have z3 : w1.heap.size + 2 ≤ W3.heap.size := Nat.le_trans z2 hb3.size
  clear hcall hb hb3 x2 q0 q1 q2 q3 q4 c0 c2
  have b4 := al1 W3 (.cells #[.int .i32 98] 21)
  have B3a := nx B3 b4
  have hcall := allM_any tS d _ (hc _ B3a).1 (hc _ B3a).2 hps nodeB8 (some ⟨W3.heap.size, 0, none⟩) 1 [98] (rdc_new W3 [98]) (by decide)
  rw [show ([98] : List Int).length = 1 from rfl] at hcall
  have x3a := (b4.block w1.heap.size om).trans x3
  have s4 : (W3.alloc (.cells #[.int .i32 98] 21)).heap.size = W3.heap.size + 1 := by simp
  unfold ND.v at hcall
  obtain ⟨q0, q1, q2, q3, q4⟩ := cells_five x3
  clear b4 x3
  go_wp2_with fail
  refine hcall.mono ?_
  rintro e W4 ⟨⟨b, rfl, hb⟩, hb4⟩
  have hbt : b = false := by
    cases b with
    | false => rfl
    | true => exact absurd (hb.1 rfl) all8b
  subst hbt
  have B4 := nx B3a hb4
  have x4 := (hb4.block w1.heap.size om).trans x3a
  have z4 : w1.heap.size + 2 ≤ W4.heap.size := by have := hb4.size; omega
  clear hcall hb hb4 x3a q0 q1 q2 q3 q4 s4 B3a
  have hcall := nullM_any tS d W4 (hc _ B4).1 (hc _ B4).2 hps nodeB8
  unfold ND.v at hcall
  obtain ⟨q0, q1, q2, q3, q4⟩ := cells_five x4
  go_wp2_with fail
  refine hcall.mono ?_
  rintro e W5 ⟨⟨b, rfl, hb⟩, hb5⟩
  have hbt := hb.2 all8n
  subst hbt
  have B5 := nx B4 hb5
  have x5 := (hb5.block w1.heap.size om).trans x4
  have z5 : w1.heap.size + 2 ≤ W5.heap.size := Nat.le_trans z4 hb5.size
  clear hcall hb hb5 x4 q0 q1 q2 q3 q4
  have b6 := al1 W5 (.cells #[.int .i32 97, .int .i32 97] 21)
  have B5a := nx B5 b6
  have hcall := begsM_any tS d _ (hc _ B5a).1 (hc _ B5a).2 hps nodeB8 (some ⟨W5.heap.size, 0, none⟩) 2 [97, 97] (rdc_new W5 [97, 97]) (by decide) (by decide) 2
  rw [show ([97, 97] : List Int).length = 2 from rfl] at hcall
  unfold ND.v at hcall
  obtain ⟨q0, q1, q2, q3, q4⟩ := cells_five x5
  go_wp2_with fail
  refine hcall.mono ?_
  rintro e W6 ⟨⟨v, zs, rfl, ho, he⟩, hb6⟩
  have hz := begs8 he
  subst hz
  obtain ⟨g', cap', rfl, _, _⟩ := three_row ho
  have B6 := nx hb1 (nx B5a hb6)
  clear hcall ho he hb6 q0 q1 q2 q3 q4 x5
  go_wp2
  go_ret
  exact ⟨rfl, B6⟩
end
section
open Go.RowKit Go.Shelf
open E (T)
attribute [local go_sem] Oper.semAt_some
theorem res_node {fn : Func} {p : Tmp} (hr : fn.results = #[.cell p 26]) (tmps : Array Value) (W : World) (n : Nat) (u0 u1 u2 u3 u4 : Value) (h : tmps.getD p undef = .pointer (some ⟨n, 0, none⟩)) (hc : W.heap[n]? = some (.cells #[u0, u1, u2, u3, u4] 26)) : (results fn tmps).run Tryz.prog W = .ok (.agg #[u0, u1, u2, u3, u4]) W := by
  rw [res_cell hr, h]
  obtain ⟨c0, c1, c2, c3, c4⟩ := cells_five hc
  have hsz := Tryz.sizeOf26 W
  have hag := Tryz.isAgg26 W
  simp [asAddr, loadVar, Sem.run_bind, hsz, hag, Result.andThen, go_sem, c0, c1, c2, c3, c4]
end
section
open E (Ps Rx T rxOf Vp)
def tC (c : Int) : T := .mk 1 0 [(c, c)] [] []
def tN : T := .mk 3 0 [] [] []
def wS (t : T) (c : Int) : T := .mk 4 0 [] [] [t, tC c]
def wT (a : List Int) : T := a.foldl wS tN
theorem wT_nil : wT [] = tN := rfl
theorem wT_snoc (a : List Int) (c : Int) : wT (a ++ [c]) = wS (wT a) c := by unfold wT; rw [List.foldl_append]; rfl
theorem pre_wS (t : T) (c : Int) : E.pre (wS t c) (wS t c) = (wS t c, wS t c) :: (E.pre t t ++ [(tC c, tC c)]) := by
  rw [E.pre_eq]
  show _ :: E.preK [t, tC c] [t, tC c] = _
  rw [E.preK_cons, E.preK_cons, E.preK_nil, List.append_nil, E.pre_eq (tC c)]
  show _ :: (_ ++ (_ :: E.preK [] [])) = _
  rw [E.preK_nil]
theorem pre_tN : E.pre tN tN = [(tN, tN)] := by
  rw [E.pre_eq]
  show _ :: E.preK [] [] = _
  rw [E.preK_nil]
theorem wT_len : ∀ (n : Nat) (a : List Int), a.length = n → (E.pre (wT a) (wT a)).length = 1 + 2 * n
  | 0, a, h => by
    rw [List.eq_nil_of_length_eq_zero h, wT_nil, pre_tN]
    rfl
  | n + 1, a, h => by
    obtain ⟨b, c, rfl⟩ : ∃ b c, a = b ++ [c] := ⟨a.dropLast, a.getLast (by rintro rfl; cases h), (List.dropLast_concat_getLast _).symm⟩
    have hb : b.length = n := by simpa using h
    rw [wT_snoc, pre_wS]
    simp [wT_len n b hb]
    omega
theorem wT_mem : ∀ (n : Nat) (a : List Int), a.length = n → ∀ p ∈ E.pre (wT a) (wT a), p = (tN, tN) ∨ (∃ c, c ∈ a ∧ p = (tC c, tC c)) ∨ ∃ t c, p = (wS t c, wS t c)
  | 0, a, h, p, hp => by
    rw [List.eq_nil_of_length_eq_zero h, wT_nil, pre_tN] at hp
    exact .inl (by simpa using hp)
  | n + 1, a, h, p, hp => by
    obtain ⟨b, c, rfl⟩ : ∃ b c, a = b ++ [c] := ⟨a.dropLast, a.getLast (by rintro rfl; cases h), (List.dropLast_concat_getLast _).symm⟩
    have hb : b.length = n := by simpa using h
    rw [wT_snoc, pre_wS, List.mem_cons, List.mem_append, List.mem_singleton] at hp
    rcases hp with h1 | h1 | h1
    · exact .inr (.inr ⟨_, _, h1⟩)
    · rcases wT_mem n b hb p h1 with h2 | ⟨c', h2, h3⟩ | h2
      · exact .inl h2
      · exact .inr (.inl ⟨c', List.mem_append_left _ h2, h3⟩)
      · exact .inr (.inr h2)
    · exact .inr (.inl ⟨c, by simp, h1⟩)
theorem wT_nodeB (a : List Int) (ha : ∀ c ∈ a, -2147483648 ≤ c ∧ c ≤ 2147483647) : ∀ p ∈ E.pre (wT a) (wT a), E.NodeB p.1 := by
  intro p hp
  rcases wT_mem _ a rfl p hp with rfl | ⟨c, hc, rfl⟩ | ⟨t, c, rfl⟩
  · simp [E.NodeB, tN, T.set, T.name, T.kids]
  · have := ha c hc
    simp [E.NodeB, tC, T.set, T.name, T.kids, this]
  · simp [E.NodeB, wS, T.set, T.name, T.kids]
theorem wT_plain (a : List Int) (hl : a.length ≤ 20) (ha : ∀ c ∈ a, 0 ≤ c ∧ c ≤ 1114111) : E.PlainP (wT a) := by
  refine ⟨⟨by rw [wT_len _ a rfl]; omega, fun p hp => ?_⟩, ?_⟩
  · rcases wT_mem _ a rfl p hp with rfl | ⟨c, hc, rfl⟩ | ⟨t, c, rfl⟩
    · exact ⟨rfl, .inr (.inr ⟨by decide, by decide, rfl, rfl⟩)⟩
    · exact ⟨rfl, .inl ⟨rfl, rfl, by show 1 ≤ 200; decide, U.S.canon_one (by have := ha c hc; exact (U.S.good_iff _).2 ⟨this.1, Int.le_refl _, this.2⟩)⟩⟩
    · exact ⟨rfl, .inr (.inr ⟨by show (3 : Int) ≤ 4; decide, by show (4 : Int) ≤ 8; decide, rfl, rfl⟩)⟩
  · unfold E.vnk
    rw [List.filter_eq_nil_iff.2, List.map_nil]
    intro p hp
    rcases wT_mem _ a rfl p hp with rfl | ⟨c, hc, rfl⟩ | ⟨t, c, rfl⟩ <;> simp [tN, tC, wS, T.kind]
theorem inS_one (c r : Int) (h0 : 0 ≤ c) (h1 : c ≤ 1114111) : E.inS [(c, c)] r = true ↔ r = c := by
  have hg : U.S.good (c, c) = true := (U.S.good_iff _).2 ⟨h0, Int.le_refl _, h1⟩
  unfold E.inS
  rw [U.S.hB_iff]
  unfold U.S.hs U.S.goods
  rw [List.filter_cons_of_pos hg, List.filter_nil, U.S.has_cons]
  constructor
  · rintro (h | h)
    · exact Int.le_antisymm h.2 h.1
    · exact absurd h (U.S.has_nil r)
  · rintro rfl
    exact .inl ⟨Int.le_refl _, Int.le_refl _⟩
theorem wT_L : ∀ (n : Nat) (a u : List Int), a.length = n → (∀ c ∈ a, 0 ≤ c ∧ c ≤ 1114111) → ((rxOf (wT a)).L u ↔ u = a)
  | 0, a, u, h, _ => by
    rw [List.eq_nil_of_length_eq_zero h, wT_nil]
    simp [tN, rxOf, Rx.L]
  | n + 1, a, u, h, ha => by
    obtain ⟨b, c, rfl⟩ : ∃ b c, a = b ++ [c] := ⟨a.dropLast, a.getLast (by rintro rfl; cases h), (List.dropLast_concat_getLast _).symm⟩
    have hb : b.length = n := by simpa using h
    have hc := ha c (by simp)
    have hb' : ∀ c ∈ b, 0 ≤ c ∧ c ≤ 1114111 := fun x hx => ha x (List.mem_append_left _ hx)
    rw [wT_snoc, wS, rxOf, tC, rxOf, Rx.L, if_pos rfl]
    constructor
    · rintro ⟨x, y, rfl, hx, hy⟩
      rw [(wT_L n b x hb hb').1 hx]
      rw [Rx.L, if_pos rfl] at hy
      obtain ⟨r, rfl, hr⟩ := hy
      rw [(inS_one c r hc.1 hc.2).1 hr]
    · rintro rfl
      refine ⟨b, [c], rfl, (wT_L n b b hb hb').2 rfl, ?_⟩
      rw [Rx.L, if_pos rfl]
      exact ⟨c, rfl, (inS_one c c hc.1 hc.2).2 rfl⟩
theorem wT_all (a u : List Int) (ha : ∀ c ∈ a, 0 ≤ c ∧ c ≤ 1114111) : (rxOf (wT a)).L u ↔ u = a := wT_L _ a u rfl ha
end
section
open Go.RowKit Go.Shelf
open E (Ps Rx T rxOf Vp)
attribute [local go_sem] Oper.semAt_some
theorem bs1W {w : World} {ρ : Operand → Value} {o : Oper} {x : Operand} {u v : Int} (hop : o.op = .buildSlice 23 1 #[(0, x)]) (hx : ρ x = .agg #[.int .i32 u, .int .i32 v]) :
    (execOp ρ o).run Tryz.prog w = .ok (.value (.slice (some ⟨q9, 0, none⟩) 1 1)) (w.alloc (.cells #[.int .i32 u, .int .i32 v] 69)) := by
  obtain ⟨dst, op, type, pos, after, guard⟩ := o
  simp only at hop
  subst hop
  have h2 := Tryz.sizeOf69
  have h3 := Tryz.zeroValue69
  simp [execOp, hx, go_sem, h2, h3]
theorem noI_node {w : World} {b : Nat} {k a : Int} {sp kp : Option Addr} {sl sc kl kc : Nat} {n : ByteArray} (h : w.heap[b]? = some (.cells #[.int .i64 k, .int .i64 a, .slice sp sl sc, .string n, .slice kp kl kc] 26)) : NoI w b := by
  intro off z hc
  have : (#[Value.int .i64 k, .int .i64 a, .slice sp sl sc, .string n, .slice kp kl kc] : Array Value)[off]? = some (.int .i32 z) := by
    simpa [World.cell?, h] using hc
  rcases off with _ | _ | _ | _ | _ | off <;> simp at this
set_option maxRecDepth 100000 in
set_option maxHeartbeats 4000000 in
theorem two_ok (ok : Nat → Prop) (k : Int) (d d2 : ND) (t t2 : T) (w : World) (hT : TR w ok t d.v) (hT2 : TR w ok t2 d2.v) (hok : ∀ b, q9 ≤ b → ok b) : Calls Tryz.prog 44 #[.int .i64 k, d.v, d2.v] w fun e w' => (∃ d' : ND, e = .returned d'.v ∧ TR w' ok (.mk k 0 [] [] [t, t2]) d'.v) ∧ Below q9 w w' := by
  have HT := hide hT
  have HT2 := hide hT2
  clear hT hT2
  unfold ND.v at HT HT2 ⊢
  go_enter Tryz.func44, Tryz.ntmps44
  go_wp2
  have a0 := al1 w (.cells NdV 26)
  have a1 := al1 (w.alloc (.cells NdV 26)) (.cells #[.int .i64 d2.k, .int .i64 d2.a, .slice d2.sp d2.sl d2.sc, .string d2.n, .slice d2.kp d2.kl d2.kc] 26)
  have a2 := al1 ((w.alloc (.cells NdV 26)).alloc (.cells #[.int .i64 d2.k, .int .i64 d2.a, .slice d2.sp d2.sl d2.sc, .string d2.n, .slice d2.kp d2.kl d2.kc] 26)) (.cells #[.int .i64 k, .int .i64 0, .slice none 0 0, .string ⟨#[]⟩, .slice (some ⟨q9 + 1 + 1 + 1, 0, none⟩) 2 2] 26)
  have n2 := heap_alloc_new ((w.alloc (.cells NdV 26)).alloc (.cells #[.int .i64 d2.k, .int .i64 d2.a, .slice d2.sp d2.sl d2.sc, .string d2.n, .slice d2.kp d2.kl d2.kc] 26)) (.cells #[.int .i64 k, .int .i64 0, .slice none 0 0, .string ⟨#[]⟩, .slice (some ⟨q9 + 1 + 1 + 1, 0, none⟩) 2 2] 26)
  have a3 := al1 (((w.alloc (.cells NdV 26)).alloc (.cells #[.int .i64 d2.k, .int .i64 d2.a, .slice d2.sp d2.sl d2.sc, .string d2.n, .slice d2.kp d2.kl d2.kc] 26)).alloc (.cells #[.int .i64 k, .int .i64 0, .slice none 0 0, .string ⟨#[]⟩, .slice (some ⟨q9 + 1 + 1 + 1, 0, none⟩) 2 2] 26)) (.cells #[.int .i64 d.k, .int .i64 d.a, .slice d.sp d.sl d.sc, .string d.n, .slice d.kp d.kl d.kc, .int .i64 d2.k, .int .i64 d2.a, .slice d2.sp d2.sl d2.sc, .string d2.n, .slice d2.kp d2.kl d2.kc] 26)
  have n3 := heap_alloc_new (((w.alloc (.cells NdV 26)).alloc (.cells #[.int .i64 d2.k, .int .i64 d2.a, .slice d2.sp d2.sl d2.sc, .string d2.n, .slice d2.kp d2.kl d2.kc] 26)).alloc (.cells #[.int .i64 k, .int .i64 0, .slice none 0 0, .string ⟨#[]⟩, .slice (some ⟨q9 + 1 + 1 + 1, 0, none⟩) 2 2] 26)) (.cells #[.int .i64 d.k, .int .i64 d.a, .slice d.sp d.sl d.sc, .string d.n, .slice d.kp d.kl d.kc, .int .i64 d2.k, .int .i64 d2.a, .slice d2.sp d2.sl d2.sc, .string d2.n, .slice d2.kp d2.kl d2.kc] 26)
  rw [World.size_alloc, World.size_alloc] at n2
  rw [World.size_alloc, World.size_alloc, World.size_alloc] at n3
  have m2 := (a3.block (q9 + 1 + 1) (by simp)).trans n2
  have bA := nx a0 (nx a1 (nx a2 a3))
  have hT := TR.later (fun j hj => bA.block j hj) _ HT.out
  have hT2 := TR.later (fun j hj => bA.block j hj) _ HT2.out
  have qq : ∀ (j : Nat) (u : Value), (#[.int .i64 d.k, .int .i64 d.a, .slice d.sp d.sl d.sc, .string d.n, .slice d.kp d.kl d.kc, .int .i64 d2.k, .int .i64 d2.a, .slice d2.sp d2.sl d2.sc, .string d2.n, .slice d2.kp d2.kl d2.kc] : Array Value)[j]? = some u → ((((w.alloc (.cells NdV 26)).alloc (.cells #[.int .i64 d2.k, .int .i64 d2.a, .slice d2.sp d2.sl d2.sc, .string d2.n, .slice d2.kp d2.kl d2.kc] 26)).alloc (.cells #[.int .i64 k, .int .i64 0, .slice none 0 0, .string ⟨#[]⟩, .slice (some ⟨q9 + 1 + 1 + 1, 0, none⟩) 2 2] 26)).alloc (.cells #[.int .i64 d.k, .int .i64 d.a, .slice d.sp d.sl d.sc, .string d.n, .slice d.kp d.kl d.kc, .int .i64 d2.k, .int .i64 d2.a, .slice d2.sp d2.sl d2.sc, .string d2.n, .slice d2.kp d2.kl d2.kc] 26)).cell? ⟨q9 + 1 + 1 + 1, j, none⟩ = some u := fun j u hu => by
    unfold World.cell?
    rw [show (⟨q9 + 1 + 1 + 1, j, none⟩ : Addr).block = q9 + 1 + 1 + 1 from rfl, n3]
    exact hu
  refine ⟨rfl, _, res_node rfl _ _ (q9 + 1 + 1) _ _ _ _ _ rfl m2, ⟨⟨k, 0, none, 0, 0, ⟨#[]⟩, some ⟨q9 + 1 + 1 + 1, 0, none⟩, 2, 2⟩, rfl, ?_⟩, bA⟩
  rw [TR]
  refine ⟨none, 0, _, 2, rfl, U.rdr_nil _ _, Nat.le_refl _, ?_⟩
  rw [KR, KR, KR]
  exact ⟨⟨_, _, _, rfl, hok _ om, hT, _, _, _, _, _, rfl, qq 0 _ rfl, qq 1 _ rfl, qq 2 _ rfl, qq 3 _ rfl, qq 4 _ rfl⟩, ⟨_, _, _, rfl, hok _ om, hT2, _, _, _, _, _, rfl, qq 5 _ rfl, qq 6 _ rfl, qq 7 _ rfl, qq 8 _ rfl, qq 9 _ rfl⟩, trivial⟩
set_option maxRecDepth 100000 in
set_option maxHeartbeats 4000000 in
theorem word_any (w : World) (ht : Tabs w) (ao bo : Option Addr) (ca cb : Nat) (xs ys : List Int) (hx : RdC32 w ao xs) (hy : RdC32 w bo ys) (hxl : xs.length ≤ 9223372036854775807) (hyl : ys.length ≤ 9223372036854775807) (hxb : ∀ c ∈ xs, -2147483648 ≤ c ∧ c ≤ 2147483647) : Calls Tryz.prog 11 #[.slice ao xs.length ca, .slice bo ys.length cb] w fun e w' => e = .returned (.bool true) ∧ Below q9 w w' := by
  have hk := known8_any w ht
  go_enter Tryz.func11, Tryz.ntmps11
  go_wp2_with fail
  refine hk.mono ?_
  rintro e W1 ⟨rfl, hb1⟩
  clear hk
  by_cases h1 : xs.length ≤ 20
  case neg =>
    have h1' : (20 : Int) < (xs.length : Int) := by omega
    go_wp2
    go_ret
    exact ⟨rfl, hb1⟩
  have h1' : ¬ (20 : Int) < (xs.length : Int) := by omega
  by_cases h2 : ys.length ≤ 20
  case neg =>
    have h2' : (20 : Int) < (ys.length : Int) := by omega
    go_wp2
    go_ret
    exact ⟨rfl, hb1⟩
  have h2' : ¬ (20 : Int) < (ys.length : Int) := by omega
  go_wp2
  have a0 := al1 W1 (.cells #[.int .i64 3, .int .i64 0, .slice none 0 0, .string ⟨#[]⟩, .slice none 0 0] 26)
  have n0 := heap_alloc_new W1 (.cells #[.int .i64 3, .int .i64 0, .slice none 0 0, .string ⟨#[]⟩, .slice none 0 0] 26)
  have bA := nx hb1 a0
  have sA := hb1.size
  go_loopw [6] (fun u wr => ∃ i : Nat, u = .int .i64 (i : Int) ∧ i ≤ xs.length ∧ (∃ d : ND, wr.heap[Wz]? = some (.cells NdV 26) ∧ Hid (TR wr (fun b => b ≠ Wz) (wT (xs.take i)) d.v)) ∧ Hid (∀ c ∈ xs.take i, 0 ≤ c ∧ c ≤ 1114111) ∧ Below q9 w wr) (fun u _ => xs.length - (intOf u).toNat)
  case atStart =>
    refine ⟨0, rfl, Nat.zero_le _, ⟨⟨3, 0, none, 0, 0, ⟨#[]⟩, none, 0, 0⟩, n0, hide ?_⟩, hide (by simp), bA⟩
    rw [List.take_zero, wT_nil, tN, TR]
    exact ⟨none, 0, none, 0, rfl, U.rdr_nil _ _, Nat.le_refl _, by rw [KR]; trivial⟩
  case round =>
    obtain ⟨i, rfl, hi, ⟨d, hd, HTr⟩, HC, hB⟩ := hrel
    clear a0 n0 bA
    have hsz : Wz < rz := (Array.getElem?_eq_some_iff.1 hd).1
    by_cases hlt : i < xs.length
    · obtain ⟨b, off, rfl, hcx⟩ := (hx.later hB) i hlt
      have hxb1 := hxb xs[i] (List.getElem_mem hlt)
      obtain ⟨c, hc⟩ : ∃ c, xs[i] = c := ⟨_, rfl⟩
      have HTK : Hid (xs.take (i + 1) = xs.take i ++ [c]) := hide (by rw [List.take_succ_eq_append_getElem hlt, hc])
      rw [hc] at hcx hxb1
      clear hc
      have hbl : b < rz := U.cell_lt hcx
      have hcy : wr.cell? ⟨b, off + i * 1, none⟩ = some (.int .i32 c) := by rw [Nat.mul_one]; exact hcx
      by_cases hc0 : c < 0
      · go_wp2
        go_ret
        exact ⟨rfl, hB⟩
      by_cases hc1 : 1114111 < c
      · go_wp2
        go_ret
        exact ⟨rfl, hB⟩
      go_wp2_with fail
      refine Rst.start 13 (fun w' => Below rz wr.drew w') kq ?_
      refine Rst.take fh 0 _ 38 (.agg NdV) rfl kq rfl kq kq (Below.refl _ _) (fun wx hb => Reg.ldN rfl rfl ((hb.block _ hsz).trans hd)) ?_
      refine Rst.take fh 1 _ 39 (.slice (some ⟨b, off, none⟩) xs.length ca) rfl kq rfl kq kq (Below.refl _ _) (fun wx hb => by kernel_rfl) ?_
      refine Rst.take fh 2 _ 40 (.int .i64 (i : Int)) rfl kq rfl kq kq (Below.refl _ _) (fun wx hb => by kernel_rfl) ?_
      refine Rst.take fh 3 _ 41 (.pointer (some ⟨b, off + i * 1, none⟩)) rfl kq rfl kq kq (Below.refl _ _) (fun wx hb => U.Reg.ix (q := .i64) (cap := ca) rfl kq kq hlt Tryz.underlying44 (elemSize44 wx)) ?_
      refine Rst.take fh 4 _ 42 (.int .i32 c) rfl kq rfl kq kq (Below.refl _ _) (fun wx hb => Reg.ld1 (a := ⟨b, off + i * 1, none⟩) rfl kq ((hb.cell (p := ⟨b, off + i * 1, none⟩) hbl).trans hcy) (Tryz.isAgg21 _)) ?_
      refine Rst.take fh 5 _ 43 (.slice (some ⟨b, off, none⟩) xs.length ca) rfl kq rfl kq kq (Below.refl _ _) (fun wx hb => by kernel_rfl) ?_
      refine Rst.take fh 6 _ 44 (.int .i64 (i : Int)) rfl kq rfl kq kq (Below.refl _ _) (fun wx hb => by kernel_rfl) ?_
      refine Rst.take fh 7 _ 45 (.pointer (some ⟨b, off + i * 1, none⟩)) rfl kq rfl kq kq (Below.refl _ _) (fun wx hb => U.Reg.ix (q := .i64) (cap := ca) rfl kq kq hlt Tryz.underlying44 (elemSize44 wx)) ?_
      refine Rst.take fh 8 _ 46 (.int .i32 c) rfl kq rfl kq kq (Below.refl _ _) (fun wx hb => Reg.ld1 (a := ⟨b, off + i * 1, none⟩) rfl kq ((hb.cell (p := ⟨b, off + i * 1, none⟩) hbl).trans hcy) (Tryz.isAgg21 _)) ?_
      refine Rst.take fh 9 _ 47 (.agg #[.int .i32 c, .int .i32 c]) rfl kq rfl kq kq (Below.refl _ _) (fun wx hb => by kernel_rfl) ?_
      have g1 := al1 wr.drew (.cells #[.int .i32 c, .int .i32 c] 69)
      refine Rst.only 10 _ 48 rfl kq rfl kq kq ⟨.slice (some ⟨rz, 0, none⟩) 1 1, wr.drew.alloc (.cells #[.int .i32 c, .int .i32 c] 69), bs1W rfl rfl, g1, ?_⟩
      refine Rst.only 11 _ 49 rfl kq rfl kq kq ⟨.agg #[.int .i64 1, .int .i64 0, .slice (some ⟨rz, 0, none⟩) 1 1, .string ⟨#[]⟩, .slice none 0 0], wr.drew.alloc (.cells #[.int .i32 c, .int .i32 c] 69), by kernel_rfl, g1, ?_⟩
      have gn := heap_alloc_new wr.drew (.cells #[.int .i32 c, .int .i32 c] 69)
      have t1 : TR (wr.drew.alloc (.cells #[.int .i32 c, .int .i32 c] 69)) (fun b => b ≠ Wz) (wT (xs.take i)) d.v := TR.later (fun k hk => g1.block k hk) _ (TR.later (w := wr) (W := wr.drew) (fun k _ => rfl) _ HTr.out)
      have t2 : TR (wr.drew.alloc (.cells #[.int .i32 c, .int .i32 c] 69)) (fun b => b ≠ Wz) (tC c) (⟨1, 0, some ⟨rz, 0, none⟩, 1, 1, ⟨#[]⟩, none, 0, 0⟩ : ND).v := by
        refine tr_set 0 1 (S := [(c, c)]) (fun j hj => ?_)
        have hj0 : j = 0 := by simpa using hj
        subst hj0
        have e0 : (wr.drew.alloc (.cells #[.int .i32 c, .int .i32 c] 69)).heap[rz]? = some (.cells #[.int .i32 c, .int .i32 c] 69) := gn
        have qq : ∀ (j : Nat) (u : Value), (#[Value.int .i32 c, .int .i32 c] : Array Value)[j]? = some u → (wr.drew.alloc (.cells #[.int .i32 c, .int .i32 c] 69)).cell? ⟨rz, j, none⟩ = some u := fun j u hu => by
          unfold World.cell?
          rw [show (⟨rz, j, none⟩ : Addr).block = rz from rfl, e0]
          exact hu
        exact ⟨rz, 0, rfl, qq 0 _ rfl, qq 1 _ rfl⟩
      have hsG : (wr.drew.alloc (.cells #[.int .i32 c, .int .i32 c] 69)).heap.size = rz + 1 := by simp
      have hcl := two_ok (fun b => b ≠ Wz) 4 d _ _ _ _ t1 t2 (fun b hb => by rw [hsG] at hb; omega)
      unfold ND.v at hcl
      refine Rst.call 12 _ 50 44 _ _ #[.int .i64 4, .agg NdV, .agg #[.int .i64 1, .int .i64 0, .slice (some ⟨rz, 0, none⟩) 1 1, .string ⟨#[]⟩, .slice none 0 0]] rfl kq rfl kq kq rfl kq kq hcl ?_
      rintro e W4 ⟨⟨de, rfl, ht4⟩, hb4⟩
      have b4 := nx g1 hb4
      refine ⟨_, rfl, b4, ?_⟩
      have hd4 := (b4.block Wz hsz).trans hd
      refine Rst.last _ rfl kq rfl kq kq ⟨_, Reg.stN rfl rfl rfl hd4, ?_⟩
      refine Rst.done kq ?_
      simp only [Reg.ov, Act.put, List.setIfInBounds_toArray, List.set_cons_succ, List.set_cons_zero]
      have hp4 := putN_box (v0 := .int .i64 de.k) (v1 := .int .i64 de.a) (v2 := .slice de.sp de.sl de.sc) (v3 := .string de.n) (v4 := .slice de.kp de.kl de.kc) hd4
      have hT4 := hide (TR.but (W := putN W4 Wz (.int .i64 de.k) (.int .i64 de.a) (.slice de.sp de.sl de.sc) (.string de.n) (.slice de.kp de.kl de.kc)) (x := Wz) (fun k _ hk => putN_other hk) (noI_node hd4) (fun h => h rfl) _ ht4)
      have hB4 : Below q9 w (putN W4 Wz (.int .i64 de.k) (.int .i64 de.a) (.slice de.sp de.sl de.sc) (.string de.n) (.slice de.kp de.kl de.kc)) := putN_below (hB.drew.trans (b4.mono (show q9 ≤ rz by omega))) sA
      obtain ⟨W5, hW5⟩ : ∃ W5, putN W4 Wz (.int .i64 de.k) (.int .i64 de.a) (.slice de.sp de.sl de.sc) (.string de.n) (.slice de.kp de.kl de.kc) = W5 := ⟨_, rfl⟩
      rw [hW5] at hp4 hT4 hB4 ⊢
      have HC2 : Hid (∀ x ∈ xs.take (i + 1), 0 ≤ x ∧ x ≤ 1114111) := hide (by
        rw [HTK.out]
        intro x hxm
        rcases List.mem_append.1 hxm with h | h
        · exact HC.out x h
        · rw [List.mem_singleton.1 h]; omega)
      have hT5 : Hid (TR W5 (fun b => b ≠ Wz) (wT (xs.take (i + 1))) de.v) := hide (by rw [HTK.out, wT_snoc]; exact hT4.out)
      clear hW5 hcl t1 t2 g1 gn ht4 hb4 b4 hd4 hT4 hd hcx hcy
      go_wp2
      exact ⟨⟨i + 1, by simp, by omega, ⟨de, hp4, hT5⟩, HC2, hB4⟩, by simp [intOf]; omega⟩
    · have hie : i = xs.length := by omega
      subst hie
      rw [List.take_length] at HTr HC
      have HT : Hid (TR wr (fun _ => True) (wT xs) d.v) := hide (TR.mono (fun _ _ _ => trivial) _ HTr.out)
      clear HTr
      obtain ⟨Wr, hWr⟩ : ∃ Wr, wr = Wr := ⟨_, rfl⟩
      rw [hWr] at hd HT hB hsz ⊢
      clear hWr
      have hBs : q9 ≤ Wr.heap.size := hB.size
      have hps : (E.pre (wT xs) (wT xs)).length ≤ 1000000 := by rw [wT_len _ xs rfl]; omega
      have hnb := wT_nodeB xs hxb
      have hpl := wT_plain xs h1 HC.out
      have hal := fun u => wT_all xs u HC.out
      go_wp2
      go_loopw [7, 8] (fun p u wv => ∃ (q : Bool) (j : Nat), p = .bool q ∧ u = .int .i64 (j : Int) ∧ j ≤ xs.length ∧ Hid (q = true ↔ (xs.length = ys.length ∧ xs.take j = ys.take j)) ∧ Below Wr.heap.size Wr wv) (fun p u _ => xs.length - (intOf u).toNat)
      case atStart => exact ⟨_, 0, rfl, rfl, Nat.zero_le _, hide (by simp; omega), Below.refl _ _⟩
      case round =>
        obtain ⟨q, j, rfl, rfl, hj, HQ, hBz⟩ := hrel
        cases q with
        | true =>
          have hq := HQ.out.1 rfl
          have hle := hq.1
          by_cases hlt2 : j < xs.length
          · obtain ⟨b, off, hbo, hc1⟩ := ((hx.later hB).later hBz) j hlt2
            obtain ⟨b', off', hbo', hc2⟩ := ((hy.later hB).later hBz) j om
            subst hbo hbo'
            obtain ⟨c1, e1⟩ : ∃ c1, xs[j] = c1 := ⟨_, rfl⟩
            obtain ⟨c2, e2⟩ : ∃ c2, ys[j]'om = c2 := ⟨_, rfl⟩
            have HQ2 : Hid ((c1 == c2) = true ↔ (xs.length = ys.length ∧ xs.take (j + 1) = ys.take (j + 1))) := hide (by
              rw [List.take_succ_eq_append_getElem hlt2, List.take_succ_eq_append_getElem (show j < ys.length by omega), hq.2, e1, e2]
              simp [hle])
            rw [e1] at hc1
            rw [e2] at hc2
            have HLE := hide hle
            clear e1 e2 HQ hq hle
            have hj1 : j < ys.length := by have := HLE.out; omega
            go_wp2
            go_quiet (fail)
            go_wp2
            exact ⟨⟨_, j + 1, rfl, by simp, by omega, HQ2, ⟨hBz.os, hBz.tape, hBz.output, hBz.size, hBz.block⟩⟩, by simp [intOf]; omega⟩
          · have HE : Hid (ys = xs) := hide (by
              have hje : j = xs.length := by omega
              have h3 := hq.2
              rw [hje, List.take_length] at h3
              rw [h3, hq.1, List.take_length])
            have HV : Hid (∀ b : Bool, (b = true ↔ AllP (wT xs) ys) → b = true) := hide (fun b hb => hb.2 ⟨hpl, (hal ys).2 HE.out⟩)
            clear hq hle HQ
            have B1 : Below q9 w wr := hB.trans (hBz.mono hBs)
            have x1 := (hBz.block Wz hsz).trans hd
            have z1 : Wz < rz := Nat.lt_of_lt_of_le hsz hBz.size
            have hcl := allM_any (wT xs) d wr (ht.later B1) (TR.later (fun k hk => hBz.block k hk) _ HT.out) hps hnb bo cb ys (hy.later B1) om
            unfold ND.v at hcl
            obtain ⟨q0, q1, q2, q3, q4⟩ := cells_five x1
            go_wp2_with fail
            refine hcl.mono ?_
            rintro e W6 ⟨⟨b1, rfl, hb1'⟩, hb6⟩
            have hbt := HV.out b1 hb1'
            subst hbt
            have B6 := nx B1 hb6
            have T6 := TR.later (fun k hk => (nx hBz hb6).block k hk) _ HT.out
            have x6 := (hb6.block Wz z1).trans x1
            have z6 : Wz < W6.heap.size := Nat.lt_of_lt_of_le z1 hb6.size
            clear hcl hb1' q0 q1 q2 q3 q4 x1
            have hcl := allM_any (wT xs) d W6 (ht.later B6) T6 hps hnb ao ca xs (hx.later B6) om
            unfold ND.v at hcl
            obtain ⟨q0, q1, q2, q3, q4⟩ := cells_five x6
            go_wp2_with fail
            refine hcl.mono ?_
            rintro e W7 ⟨⟨b1, rfl, hb1'⟩, hb7⟩
            have hbt : b1 = true := hb1'.2 ⟨hpl, (hal xs).2 rfl⟩
            subst hbt
            have B7 := nx B6 hb7
            have T7 := TR.later (fun k hk => hb7.block k hk) _ T6
            have x7 := (hb7.block Wz z6).trans x6
            clear hcl hb1' q0 q1 q2 q3 q4 x6
            have hcl := nullM_any (wT xs) d W7 (ht.later B7) T7 hps hnb
            unfold ND.v at hcl
            obtain ⟨q0, q1, q2, q3, q4⟩ := cells_five x7
            go_wp2_with fail
            refine hcl.mono ?_
            rintro e W8 ⟨⟨b1, rfl, hb1'⟩, hb8⟩
            by_cases hx0 : xs.length = 0
            · have hbt : b1 = true := hb1'.2 ⟨hpl, (hal []).2 (List.eq_nil_of_length_eq_zero hx0).symm⟩
              subst hbt
              have e0 : ((xs.length : Int) == 0) = true := by simp [List.eq_nil_of_length_eq_zero hx0]
              clear hcl hb1' q0 q1 q2 q3 q4
              go_wp2
              go_ret
              exact ⟨by first | rfl | simp [hx0], nx B7 hb8⟩
            · have hbt : b1 = false := by
                cases b1 with
                | false => rfl
                | true =>
                  have := (hal []).1 (hb1'.1 rfl).2
                  rw [← this] at hx0
                  exact absurd rfl hx0
              subst hbt
              have e0 : ((xs.length : Int) == 0) = false := by simp; intro h; rw [h] at hx0; exact hx0 rfl
              clear hcl hb1' q0 q1 q2 q3 q4
              go_wp2
              go_ret
              exact ⟨by first | rfl | simp [hx0], nx B7 hb8⟩
        | false =>
          have HE : Hid (ys ≠ xs) := hide (fun h => by
            have := HQ.out.2 ⟨by rw [h], by rw [h]⟩
            cases this)
          have HV : Hid (∀ b : Bool, (b = true ↔ AllP (wT xs) ys) → b = false) := hide (fun b hb => by
            cases b with
            | false => rfl
            | true => exact absurd ((hal ys).1 (hb.1 rfl).2) HE.out)
          clear HQ
          have B1 : Below q9 w wr := hB.trans (hBz.mono hBs)
          have x1 := (hBz.block Wz hsz).trans hd
          have z1 : Wz < rz := Nat.lt_of_lt_of_le hsz hBz.size
          have hcl := allM_any (wT xs) d wr (ht.later B1) (TR.later (fun k hk => hBz.block k hk) _ HT.out) hps hnb bo cb ys (hy.later B1) om
          unfold ND.v at hcl
          obtain ⟨q0, q1, q2, q3, q4⟩ := cells_five x1
          go_wp2_with fail
          refine hcl.mono ?_
          rintro e W6 ⟨⟨b1, rfl, hb1'⟩, hb6⟩
          have hbt := HV.out b1 hb1'
          subst hbt
          have B6 := nx B1 hb6
          have T6 := TR.later (fun k hk => (nx hBz hb6).block k hk) _ HT.out
          have x6 := (hb6.block Wz z1).trans x1
          have z6 : Wz < W6.heap.size := Nat.lt_of_lt_of_le z1 hb6.size
          clear hcl hb1' q0 q1 q2 q3 q4 x1
          have hcl := allM_any (wT xs) d W6 (ht.later B6) T6 hps hnb ao ca xs (hx.later B6) om
          unfold ND.v at hcl
          obtain ⟨q0, q1, q2, q3, q4⟩ := cells_five x6
          go_wp2_with fail
          refine hcl.mono ?_
          rintro e W7 ⟨⟨b1, rfl, hb1'⟩, hb7⟩
          have hbt : b1 = true := hb1'.2 ⟨hpl, (hal xs).2 rfl⟩
          subst hbt
          have B7 := nx B6 hb7
          have T7 := TR.later (fun k hk => hb7.block k hk) _ T6
          have x7 := (hb7.block Wz z6).trans x6
          clear hcl hb1' q0 q1 q2 q3 q4 x6
          have hcl := nullM_any (wT xs) d W7 (ht.later B7) T7 hps hnb
          unfold ND.v at hcl
          obtain ⟨q0, q1, q2, q3, q4⟩ := cells_five x7
          go_wp2_with fail
          refine hcl.mono ?_
          rintro e W8 ⟨⟨b1, rfl, hb1'⟩, hb8⟩
          by_cases hx0 : xs.length = 0
          · have hbt : b1 = true := hb1'.2 ⟨hpl, (hal []).2 (List.eq_nil_of_length_eq_zero hx0).symm⟩
            subst hbt
            have e0 : ((xs.length : Int) == 0) = true := by simp [List.eq_nil_of_length_eq_zero hx0]
            clear hcl hb1' q0 q1 q2 q3 q4
            go_wp2
            go_ret
            exact ⟨by first | rfl | simp [hx0], nx B7 hb8⟩
          · have hbt : b1 = false := by
              cases b1 with
              | false => rfl
              | true =>
                have := (hal []).1 (hb1'.1 rfl).2
                rw [← this] at hx0
                exact absurd rfl hx0
            subst hbt
            have e0 : ((xs.length : Int) == 0) = false := by simp; intro h; rw [h] at hx0; exact hx0 rfl
            clear hcl hb1' q0 q1 q2 q3 q4
            go_wp2
            go_ret
            exact ⟨by first | rfl | simp [hx0], nx B7 hb8⟩
end
end Go.Proofs.YteaaijhppmkfeaaGreatDoor
