/- Joined: Pln Alm End. -/
import Derived.Test.YtemanednddhfaaaGreatDoorMNml
import Derived.Test.YtemanednddhfaaaGreatDoorMIss
import Derived.Test.YtemanednddhfaaaGreatDoorMLns
namespace Go.Proofs.YtemanednddhfaaaGreatDoor
open Go.RowKit Go.Shelf
open E (Ps Rx T rxOf Vp)
attribute [local go_sem] Oper.semAt_some
namespace E
def PlainP (t : T) : Prop := IsP t ∧ vnk (pre t t) = []
theorem compact_nil {l : List (List UInt8)} : (Go.Lib.compact l).length = 0 ↔ l = [] := by
 constructor
 · intro h
   cases l with
   | nil => rfl
   | cons a l =>
     exfalso
     unfold Go.Lib.compact Go.Lib.compactUpTo at h
     rw [List.length_map, List.length_eq_zero_iff, List.filter_eq_nil_iff] at h
     exact h 0 (List.mem_range.2 (by simp)) (Go.Lib.keeps_lt_one _ 0 (by omega))
 · rintro rfl
   have := Go.Lib.compact_length_le ([] : List (List UInt8))
   simpa using this
theorem nmL_nil (t : T) : (nmL t).length = 0 ↔ vnk (pre t t) = [] := by
 unfold nmL
 rw [compact_nil]
 constructor
 · intro h
   have := congrArg List.length h
   rw [List.length_mergeSort] at this
   exact List.eq_nil_of_length_eq_zero this
 · intro h; rw [h]; simp
theorem vp_of : ∀ (t : T), (∀ p ∈ pre t t, NodeOk p.1) → vnk (pre t t) = [] → Vp t
 | .mk k a s n ks, h, hv => by
   have h0 : NodeOk (.mk k a s n ks) := h (.mk k a s n ks, .mk k a s n ks) (by rw [pre_eq]; simp)
   have hk2 : k ≠ 2 := by
     rintro rfl
     rw [pre_eq] at hv
     simp [vnk, T.kind] at hv
   have hkids : ∀ p ∈ preK ks ks, NodeOk p.1 := fun p hp => h p (by rw [pre_eq]; exact List.mem_cons_of_mem _ hp)
   have hvk : vnk (preK ks ks) = [] := by
     rw [pre_eq] at hv
     simpa [vnk, T.kind, T.kids, hk2] using hv
   obtain ⟨h1, h2⟩ := h0
   simp only [T.kids, T.kind, T.name, T.set] at h1 h2
   match ks, h1, hkids, hvk with
   | [], h1, _, _ =>
     rw [Vp]
     rcases h2 with ⟨e, _, hl, _⟩ | ⟨e, _⟩ | ⟨e1, e2, e3, _⟩
     · exact ⟨.inl e, by omega⟩
     · exact absurd e hk2
     · refine ⟨.inr ?_, by rw [e3]; simp⟩
       unfold kidsOf at h1
       simp at h1
       split at h1 <;> first | omega | (split at h1 <;> omega)
   | [x], h1, hkids, hvk =>
     rw [Vp]
     refine ⟨?_, vp_of x (fun p hp => hkids p (by rw [preK_cons]; exact List.mem_append_left _ hp)) ?_⟩
     · unfold kidsOf at h1
       simp at h1
       split at h1 <;> first | omega | (split at h1 <;> omega)
     · rw [preK_cons, preK_nil, List.append_nil] at hvk
       exact hvk
   | [x, y], h1, hkids, hvk =>
     rw [Vp]
     have hvs : vnk (pre x x) = [] ∧ vnk (pre y y) = [] := by
       rw [preK_cons, preK_cons, preK_nil, List.append_nil] at hvk
       unfold vnk at hvk ⊢
       rw [List.filter_append, List.map_append, List.append_eq_nil_iff] at hvk
       exact hvk
     refine ⟨?_, vp_of x (fun p hp => hkids p (by rw [preK_cons]; exact List.mem_append_left _ hp)) hvs.1, vp_of y (fun p hp => hkids p (by rw [preK_cons, preK_cons]; exact List.mem_append_right _ (List.mem_append_left _ hp))) hvs.2⟩
     unfold kidsOf at h1
     simp at h1
     split at h1 <;> first | omega | (split at h1 <;> omega)
   | x :: y :: z :: r, h1, _, _ =>
     exfalso
     unfold kidsOf at h1
     simp only [List.length_cons] at h1
     split at h1 <;> first | omega | (split at h1 <;> omega)
theorem PlainP.vp {t : T} (h : PlainP t) : Vp t := vp_of t h.1.2 h.2
theorem IsP.names {t : T} (h : IsP t) : ∀ p ∈ pre t t, p.1.name.length ≤ 100000 := by
 intro p hp
 rcases (h.2 p hp).2 with ⟨_, e, _⟩ | ⟨_, _, e⟩ | ⟨_, _, _, e⟩
 · rw [e]; simp
 · unfold nameP at e
   simp only [Bool.and_eq_true, decide_eq_true_eq] at e
   omega
 · rw [e]; simp
end E
set_option maxRecDepth 100000 in
set_option maxHeartbeats 1000000 in
theorem plain_any (t : T) (d : ND) (w : World) (htab : Tabs w) (hT : TR w (fun _ => True) t d.v) (hps : (E.pre t t).length ≤ 1000000) (hnb : ∀ p ∈ E.pre t t, E.NodeB p.1) :
   Calls Tryz.prog 59 #[d.v] w fun e W' => U.Told (E.PlainP t) e ∧ Below w.heap.size w W' := by
 have a1 := al1 w (.cells #[.int .i64 d.k, .int .i64 d.a, .slice d.sp d.sl d.sc, .string d.n, .slice d.kp d.kl d.kc] 26)
 have n1 := heap_alloc_new w (.cells #[.int .i64 d.k, .int .i64 d.a, .slice d.sp d.sl d.sc, .string d.n, .slice d.kp d.kl d.kc] 26)
 have h1 := is_any7 t d _ (htab.later a1) (TR.later (fun k hk => a1.block k hk) _ hT) hps hnb
 have HT := hide hT
 clear hT
 unfold ND.v at h1 ⊢
 go_enter Tryz.func59, Tryz.ntmps59
 go_wp2_with fail
 refine h1.mono ?_
 rintro e W1 ⟨⟨b, rfl, hb⟩, hb1⟩
 have b1 := nx a1 hb1
 have z0 : (w.alloc (.cells #[.int .i64 d.k, .int .i64 d.a, .slice d.sp d.sl d.sc, .string d.n, .slice d.kp d.kl d.kc] 26)).heap.size = w.heap.size + 1 := by simp
 have m1 := (hb1.block w.heap.size (by omega)).trans n1
 obtain ⟨q0, q1, q2, q3, q4⟩ := cells_five m1
 have HB := hide hb
 clear h1 hb n1 m1
 cases b with
 | true =>
   have hI := HB.out.1 rfl
   have h2 := names_any t d W1 (TR.later (fun k hk => b1.block k hk) _ HT.out) hps hI.names
   unfold ND.v at h2
   have HI := hide hI
   clear hI HB
   go_wp2_with fail
   refine h2.mono ?_
   rintro e W2 ⟨u, rfl, ho, hb2⟩
   obtain ⟨ao, cap, rfl⟩ : ∃ ao cap, u = .slice ao (E.nmL t).length cap := by
     obtain ⟨_, ⟨e, h⟩ | ⟨g, cap, cur, e, _⟩⟩ := ho
     · exact ⟨none, 0, by rw [e, h]⟩
     · exact ⟨_, _, e⟩
   have b2 := nx b1 hb2
   have HN := hide (E.nmL_nil t)
   clear h2 ho hb2 q0 q1 q2 q3 q4
   generalize (E.nmL t).length = n at *
   go_wp2
   go_ret
   refine ⟨?_, b2⟩
   refine ⟨_, rfl, ?_⟩
   have := HN.out
   unfold E.PlainP
   simp only [HI.out, true_and, ← this]
   simp
 | false =>
   have hI : ¬ E.IsP t := fun h => by have := HB.out.2 h; cases this
   have HI := hide hI
   clear HB hI
   go_wp2
   go_ret
   exact ⟨U.told_no (fun h => HI.out h.1), b1⟩
end Go.Proofs.YtemanednddhfaaaGreatDoor
namespace Go.Proofs.YtemanednddhfaaaGreatDoor
open Go.RowKit Go.Shelf
open E (Ps Rx T rxOf Vp)
attribute [local go_sem] Oper.semAt_some
def NoPan (Q : Exit → Act → World → Prop) : Exit → Act → World → Prop
 | .normal, a, w => Q .normal a w
 | _, _, _ => False
theorem noPan {F : Fence} {n : Nat} {P : Program} {c : Code} {Q : Exit → Act → World → Prop} {a : Act} {w : World} (h : c.wpIn F n P (NoPan Q) a w) : c.wpIn F n P Q a w := by
 refine wpIn_mono h ?_
 intro e a w h
 cases e <;> first | exact h | exact h.elim
theorem res37 (tmps : Array Value) (W : World) (n : Nat) (b : Bool) (h : tmps.getD 4 undef = .pointer (some ⟨n, 0, none⟩)) (hc : W.cell? ⟨n, 0, none⟩ = some (.bool b)) :
   (results Tryz.f26 tmps).run Tryz.prog W = .ok (.bool b) W := by
 rw [res_cell (p := 4) (ty := 4) rfl, h]
 simp [asAddr, loadVar, Sem.run_bind, Result.andThen, go_sem, hc]
theorem ow_bool {pb : Nat} {W : World} {b : Bool} {t : TypeId} (h : W.heap[pb]? = some (.cells #[.bool b] t)) (k : Nat) : ¬ Ow pb W k := by
 rintro ⟨v, t', f, h1, h2⟩
 rw [h] at h1
 cases h1
 cases h2
theorem fwd_mk (t : T) (hV : Vp t) (d : ND) (w0 : World) (hT : TR w0 (fun _ => True) t d.v) : ∀ W, Below w0.heap.size w0 W → Calls Tryz.prog 61 #[d.v] W fun e W' => ∃ v, e = .returned v ∧ PV w0 W' (rxOf t).ps v W.heap.size W'.heap.size ∧ Below W.heap.size W W' := fun W hB => fwd_any t hV w0 W d hT hB
def AllP (t : T) (xs : List Int) : Prop := E.PlainP t ∧ (rxOf t).L xs
set_option maxRecDepth 100000 in
set_option maxHeartbeats 4000000 in
theorem allM_in (t : T) (d : ND) (w : World) (htab : Tabs w) (hT : TR w (fun _ => True) t d.v) (hps : (E.pre t t).length ≤ 1000000) (hnb : ∀ p ∈ E.pre t t, E.NodeB p.1) (ao : Option Addr) (cap : Nat) (xs : List Int) (hx : RdC32 w ao xs) (hlen : xs.length ≤ 1000000) :
   CallsIn Fence.wide 9 Tryz.prog 26 #[d.v, .slice ao xs.length cap] w fun e W' => U.Told (AllP t xs) e ∧ Below w.heap.size w W' := by
 have hpl := fun W hb => plain_any t d W (htab.later hb) (TR.later (fun k hk => Below.block hb k hk) _ hT) hps hnb
 unfold ND.v at hpl ⊢
 refine callsIn_of_wp_marks Tryz.func26 rfl trivial ?_ rfl
 simp only [Tryz.ntmps26, List.size_toArray, List.length_cons, List.length_nil, Nat.reduceAdd, Nat.reduceSub, Array.replicate_succ, Array.replicate_zero, List.push_toArray, List.append_toArray, List.nil_append, List.cons_append]
 have a1 := al1 w (.cells #[.int .i64 d.k, .int .i64 d.a, .slice d.sp d.sl d.sc, .string d.n, .slice d.kp d.kl d.kc] 26)
 have n1 := heap_alloc_new w (.cells #[.int .i64 d.k, .int .i64 d.a, .slice d.sp d.sl d.sc, .string d.n, .slice d.kp d.kl d.kc] 26)
 have a2 := al1 (w.alloc (.cells #[.int .i64 d.k, .int .i64 d.a, .slice d.sp d.sl d.sc, .string d.n, .slice d.kp d.kl d.kc] 26)) (.cells #[.slice ao xs.length cap] 53)
 have n2 := heap_alloc_new (w.alloc (.cells #[.int .i64 d.k, .int .i64 d.a, .slice d.sp d.sl d.sc, .string d.n, .slice d.kp d.kl d.kc] 26)) (.cells #[.slice ao xs.length cap] 53)
 have a3 := al1 ((w.alloc (.cells #[.int .i64 d.k, .int .i64 d.a, .slice d.sp d.sl d.sc, .string d.n, .slice d.kp d.kl d.kc] 26)).alloc (.cells #[.slice ao xs.length cap] 53)) (.cells #[.bool false] 4)
 have n3 := heap_alloc_new ((w.alloc (.cells #[.int .i64 d.k, .int .i64 d.a, .slice d.sp d.sl d.sc, .string d.n, .slice d.kp d.kl d.kc] 26)).alloc (.cells #[.slice ao xs.length cap] 53)) (.cells #[.bool false] 4)
 have s3 : (((w.alloc (.cells #[.int .i64 d.k, .int .i64 d.a, .slice d.sp d.sl d.sc, .string d.n, .slice d.kp d.kl d.kc] 26)).alloc (.cells #[.slice ao xs.length cap] 53)).alloc (.cells #[.bool false] 4)).heap.size = w.heap.size + 3 := by simp
 rw [World.size_alloc] at n2
 rw [World.size_alloc, World.size_alloc] at n3
 have m1 := ((nx a2 a3).block w.heap.size (by simp)).trans n1
 have m2 := (a3.block (w.heap.size + 1) (by simp)).trans n2
 have b3 := nx a1 (nx a2 a3)
 have hp := hpl _ b3
 clear hpl n1 n2 a1 a2 a3
 gi_wp2_with fail
 refine ⟨trivial, (callsIn_wide.2 hp).mono ?_⟩
 rintro e W1 ⟨⟨b, rfl, hb⟩, hb1⟩
 have hs1 := hb1.size
 rw [s3] at hs1
 have x1 := (hb1.block w.heap.size (by omega)).trans m1
 have x2 := (hb1.block (w.heap.size + 1) (by omega)).trans m2
 have x3 := (hb1.block (w.heap.size + 2) (by omega)).trans n3
 have bW := nx b3 hb1
 have HB := hide hb
 clear hp hb hb1 m1 m2 n3 b3 s3
 cases b with
 | false =>
   have hI : Hid (¬ E.PlainP t) := hide (fun h => by have := HB.out.2 h; cases this)
   have c3 : W1.cell? ⟨w.heap.size + 2, 0, none⟩ = some (.bool false) := by simp [World.cell?, x3]
   have f3 : W1.frozen? ⟨w.heap.size + 2, 0, none⟩ = false := by simp [World.frozen?, x3]
   clear HB x1 x2
   gi_wp2
   refine ⟨.bool false, res37 _ _ (w.heap.size + 2) false rfl (by simp [World.cell?, World.setCell, Array.getElem?_modify, x3]), U.told_no (fun h => hI.out h.1), bW.setCell (p := ⟨w.heap.size + 2, 0, none⟩) (by show w.heap.size ≤ w.heap.size + 2; omega) _⟩
 | true =>
   have hI := hide (HB.out.1 rfl)
   clear HB
   gi_wp2
   have kx : ∀ w', Below (w.heap.size + 3) W1.drew w' → w'.heap[w.heap.size]? = some (.cells #[.int .i64 d.k, .int .i64 d.a, .slice d.sp d.sl d.sc, .string d.n, .slice d.kp d.kl d.kc] 26) ∧ w'.heap[w.heap.size + 1]? = some (.cells #[.slice ao xs.length cap] 53) := fun w' hb => ⟨(hb.block _ (by omega)).trans x1, (hb.block _ (by omega)).trans x2⟩
   refine noPan (wpIn_wide.2 ?_)
   refine Reg.start (B := w.heap.size + 3) (by kernel_rfl) ?_
   refine Reg.take (fun _ _ _ _ _ h => h) 0 _ 9 (.agg #[.int .i64 d.k, .int .i64 d.a, .slice d.sp d.sl d.sc, .string d.n, .slice d.kp d.kl d.kc]) rfl (by kernel_rfl) (by kernel_rfl) (by kernel_rfl) rfl (by kernel_rfl) (by kernel_rfl) (fun w' hb => Reg.ldN rfl rfl (kx w' hb).1) ?_
   refine Reg.take (fun _ _ _ _ _ h => h) 1 _ 10 (.slice ao xs.length cap) rfl (by kernel_rfl) (by kernel_rfl) (by kernel_rfl) rfl (by kernel_rfl) (by kernel_rfl) (fun w' hb => Reg.ldS rfl rfl (by simp [World.cell?, (kx w' hb).2]) (Tryz.isAgg53 _)) ?_
   refine Reg.call 2 _ 11 62 _ _ #[.slice ao xs.length cap] rfl (by kernel_rfl) rfl (by kernel_rfl) (by kernel_rfl) rfl (by kernel_rfl) (by kernel_rfl) (all_make ao xs.length cap W1.drew) ?_
   rintro e w4 ⟨rfl, rfl⟩
   have y0 := heap_alloc_new W1.drew (.cells #[.slice ao xs.length cap] 53)
   have yb := al1 W1.drew (.cells #[.slice ao xs.length cap] 53)
   have ys : (W1.drew.alloc (.cells #[.slice ao xs.length cap] 53)).heap.size = W1.heap.size + 1 := by simp
   refine ⟨_, w.heap.size + 3, rfl, Nat.le_refl _, yb.mono hs1, ?_⟩
   obtain ⟨Y, hY0⟩ : ∃ Y, W1.drew.alloc (.cells #[.slice ao xs.length cap] 53) = Y := ⟨_, rfl⟩
   rw [hY0] at y0 yb ys ⊢
   have hlm := lens_make 61 96 W1.heap.size d Y
   unfold ND.v at hlm
   refine Reg.call 3 _ 12 60 _ _ #[.agg #[.int .i64 d.k, .int .i64 d.a, .slice d.sp d.sl d.sc, .string d.n, .slice d.kp d.kl d.kc], .func (.func 61) #[] #[], .func (.func 96) #[] #[.pointer (some ⟨W1.heap.size, 0, none⟩)]] rfl (by kernel_rfl) rfl (by kernel_rfl) (by kernel_rfl) rfl (by kernel_rfl) (by kernel_rfl) hlm ?_
   rintro e w5 ⟨rfl, rfl⟩
   clear hlm hY0 kx
   have v1 := al1 Y (.cells #[.int .i64 d.k, .int .i64 d.a, .slice d.sp d.sl d.sc, .string d.n, .slice d.kp d.kl d.kc] 26)
   have u1 := heap_alloc_new Y (.cells #[.int .i64 d.k, .int .i64 d.a, .slice d.sp d.sl d.sc, .string d.n, .slice d.kp d.kl d.kc] 26)
   have v2 := al1 (Y.alloc (.cells #[.int .i64 d.k, .int .i64 d.a, .slice d.sp d.sl d.sc, .string d.n, .slice d.kp d.kl d.kc] 26)) (.cells #[.func (.func 61) #[] #[]] 105)
   have u2 := heap_alloc_new (Y.alloc (.cells #[.int .i64 d.k, .int .i64 d.a, .slice d.sp d.sl d.sc, .string d.n, .slice d.kp d.kl d.kc] 26)) (.cells #[.func (.func 61) #[] #[]] 105)
   have v3 := al1 ((Y.alloc (.cells #[.int .i64 d.k, .int .i64 d.a, .slice d.sp d.sl d.sc, .string d.n, .slice d.kp d.kl d.kc] 26)).alloc (.cells #[.func (.func 61) #[] #[]] 105)) (.cells #[.func (.func 96) #[] #[.pointer (some ⟨W1.heap.size, 0, none⟩)]] 107)
   have u3 := heap_alloc_new ((Y.alloc (.cells #[.int .i64 d.k, .int .i64 d.a, .slice d.sp d.sl d.sc, .string d.n, .slice d.kp d.kl d.kc] 26)).alloc (.cells #[.func (.func 61) #[] #[]] 105)) (.cells #[.func (.func 96) #[] #[.pointer (some ⟨W1.heap.size, 0, none⟩)]] 107)
   rw [World.size_alloc] at u2
   rw [World.size_alloc, World.size_alloc] at u3
   have e1 := ((nx v2 v3).block Y.heap.size (by simp)).trans u1
   have e2 := (v3.block (Y.heap.size + 1) (by simp)).trans u2
   have vb := nx v1 (nx v2 v3)
   have e0 := (vb.block W1.heap.size (by omega)).trans y0
   have sX : (((Y.alloc (.cells #[.int .i64 d.k, .int .i64 d.a, .slice d.sp d.sl d.sc, .string d.n, .slice d.kp d.kl d.kc] 26)).alloc (.cells #[.func (.func 61) #[] #[]] 105)).alloc (.cells #[.func (.func 96) #[] #[.pointer (some ⟨W1.heap.size, 0, none⟩)]] 107)).heap.size = Y.heap.size + 3 := by simp
   have vb1 := nx yb vb
   refine ⟨_, w.heap.size + 3, rfl, Nat.le_refl _, vb.mono (by omega), ?_⟩
   obtain ⟨X, hX⟩ : ∃ X, ((Y.alloc (.cells #[.int .i64 d.k, .int .i64 d.a, .slice d.sp d.sl d.sc, .string d.n, .slice d.kp d.kl d.kc] 26)).alloc (.cells #[.func (.func 61) #[] #[]] 105)).alloc (.cells #[.func (.func 96) #[] #[.pointer (some ⟨W1.heap.size, 0, none⟩)]] 107) = X := ⟨_, rfl⟩
   rw [hX] at e1 e2 u3 e0 sX vb vb1 ⊢
   refine Reg.done (by kernel_rfl) ?_
   simp only [NoPan, Reg.ov, Act.put, List.setIfInBounds_toArray, List.set_cons_succ, List.set_cons_zero]
   rw [show Y.heap.size + 1 + 1 = Y.heap.size + 2 from rfl] at u3
   rw [ys] at e1 e2 u3 sX ⊢
   have xb2 := (vb1.block (w.heap.size + 1) (show w.heap.size + 1 < W1.heap.size by omega)).trans x2
   have xb3 := (vb1.block (w.heap.size + 2) (show w.heap.size + 2 < W1.heap.size by omega)).trans x3
   have bX : Below w.heap.size w X := bW.drew.trans (vb1.mono (show w.heap.size ≤ W1.heap.size by omega))
   have sX2 : W1.heap.size + 4 ≤ X.heap.size := by omega
   clear hX v1 v2 v3 u1 u2 vb vb1 yb y0 x1 x2 x3 sX ys
   gi_wp2
   refine enter3 (gf := 92) (lb := #[.pointer (some ⟨W1.heap.size + 1 + 1, 0, none⟩), .pointer (some ⟨W1.heap.size + 1, 0, none⟩), .pointer (some ⟨W1.heap.size + 1 + 2, 0, none⟩)]) rfl (enters_of Tryz.func92 (by kernel_rfl) rfl) ?_
   intro r We hr hrec hdef hszE hbE
   have bE := bX.trans (hbE.mono (by have := bX.size; omega))
   have k2 := (hbE.block (w.heap.size + 1) (by omega)).trans xb2
   have k3 := (hbE.block (w.heap.size + 2) (by omega)).trans xb3
   refine (lens66_in 8 (by omega) w (rxOf t) d xs (w.heap.size + 3) (w.heap.size + 2) (W1.heap.size + 1 + 1) (W1.heap.size + 1) (W1.heap.size + 1 + 2) W1.heap.size (X.heap.size + 1) _ (fwd_mk t hI.out.vp d w hT) (pts_all hx hlen W1.heap.size) hlen (by omega) (by omega) (by omega) (by omega)
     (fun m A => A.heap[w.heap.size + 2]? = some (.cells #[.bool false] 4) ∧ A.heap[w.heap.size + 1]? = some (.cells #[.slice ao xs.length cap] 53) ∧ A.heap[X.heap.size + 1]? = some (.loop r) ∧ A.heap[X.heap.size]? = some (.deferred (some [])) ∧ Below w.heap.size w A ∧ (xs.length < m → hit xs (rxOf t) xs.length = false))
     (fun m A => A.heap[w.heap.size + 2]? = some (.cells #[.bool true] 4) ∧ (∃ rd : Loop, rd.state = .done ∧ rd.pending = some .ret ∧ A.heap[X.heap.size + 1]? = some (.loop rd)) ∧ A.heap[X.heap.size]? = some (.deferred (some [])) ∧ Below w.heap.size w A ∧ hit xs (rxOf t) xs.length = true)
     We ((hbE.block _ (by omega)).trans e2) ((hbE.block _ (by omega)).trans e1) ((hbE.block _ (by omega)).trans u3) ((hbE.block _ (by omega)).trans e0) bE (by omega) (by omega) ?stable ?stops ?skip ?lt (fun k _ => ow_bool k3 k) ?round ⟨k3, k2, hrec.out, hdef.out, bE, by omega⟩).mono ?_
   case stable =>
     rintro m A A' ⟨j1, j2, j3, j4, j5, j6⟩ hb
     exact ⟨(hb.below.block _ (by omega)).trans j1, (hb.below.block _ (by omega)).trans j2, (hb.below.block _ (by omega)).trans j3, (hb.below.block _ (by omega)).trans j4, j5.trans (hb.below.mono (by omega)), j6⟩
   case stops =>
     rintro m A A' ⟨j1, ⟨rd, h1, h2, j3⟩, j4, j5, j6⟩ hb
     exact ⟨(hb.block _ (by omega)).trans j1, ⟨rd, h1, h2, (hb.block _ (by omega)).trans j3⟩, (hb.block _ (by omega)).trans j4, j5.trans (hb.mono (by omega)), j6⟩
   case skip =>
     rintro m A hm ⟨j1, j2, j3, j4, j5, j6⟩
     refine ⟨j1, j2, j3, j4, j5, fun h => ?_⟩
     by_cases he : xs.length = m
     · rw [he]; exact hm
     · exact j6 (by omega)
   case lt =>
     rintro m A ⟨j1, _⟩ k ho
     exact absurd ho (ow_bool j1 k)
   case round =>
     rintro m hm hhit A ⟨j1, j2, j3, j4, j5, j6⟩ hle hBA
     have HH := hide hhit
     have HJ6 := hide j6
     refine yield3 hr j3 rfl ?_
     gi_wp2
     have hl1 : X.heap.size + 1 < A.heap.size := (Array.getElem?_eq_some_iff.1 j3).1
     intro rb
     have hne : ∀ k, k ≠ X.heap.size + 1 → (A.putObj (X.heap.size + 1) (.loop rb)).heap[k]? = A.heap[k]? := fun k hk => World.putObj_heap_other hk
     have k1 := (hne (w.heap.size + 2) (by omega)).trans j1
     have k2 := (hne (w.heap.size + 1) (by omega)).trans j2
     have kr := hide (World.putObj_heap_same (w := A) (o := .loop rb) hl1)
     have ksz : (A.putObj (X.heap.size + 1) (.loop rb)).heap.size = A.heap.size := World.putObj_size
     have HNE := hide hne
     have kb : Hid (Below w.heap.size A (A.putObj (X.heap.size + 1) (.loop rb))) := hide (below_put _ _ (by omega))
     obtain ⟨A1, hA1⟩ : ∃ A1, A.putObj (X.heap.size + 1) (.loop rb) = A1 := ⟨_, rfl⟩
     rw [hA1] at k1 k2 kr ksz HNE kb ⊢
     have HS := hide ksz
     clear hA1 hne hhit j6 ksz
     have c1 : A1.cell? ⟨w.heap.size + 2, 0, none⟩ = some (.bool false) := by simp [World.cell?, k1]
     have f1 : A1.frozen? ⟨w.heap.size + 2, 0, none⟩ = false := by simp [World.frozen?, k1]
     have c2 : A1.cell? ⟨w.heap.size + 1, 0, none⟩ = some (.slice ao xs.length cap) := by simp [World.cell?, k2]
     have J1 := hide j1
     have J2 := hide j2
     have J3 := hide j3
     have J4 := hide j4
     have J5 := hide j5
     have K1 := hide k1
     clear j1 j2 j3 j4 j5 k1 k2
     by_cases hml : m = xs.length
     · have em : ((m : Int) == (xs.length : Int)) = true := by simp [hml]
       have em2 : (m == xs.length) = true := by simp [hml]
       have HM : Hid (hit xs (rxOf t) xs.length = true) := hide (by rw [← hml]; exact HH.out)
       clear hml HH
       gi_wp2
       have hn9 : ∀ k, k ≠ w.heap.size + 2 → (A1.setCell ⟨w.heap.size + 2, 0, none⟩ (.bool true)).heap[k]? = A1.heap[k]? := fun k hk => Below.heap_setCell _ _ _ _ hk
       have r9 := (hn9 (X.heap.size + 1) (by omega)).trans kr.out
       have s9 : (A1.setCell ⟨w.heap.size + 2, 0, none⟩ (.bool true)).heap[w.heap.size + 2]? = some (.cells #[.bool true] 4) := by simp [World.setCell, Array.getElem?_modify, K1.out]
       refine ⟨r9, fun rd h1 h2 => .inr ⟨rfl, fun k hk hk' hkl _ => ?_, (World.putObj_heap_other (by omega)).trans s9, ⟨rd, h1, h2, World.putObj_heap_same (Array.getElem?_eq_some_iff.1 r9).1⟩, ?_, ?_, HM.out⟩⟩
       · rw [World.putObj_heap_other hkl, hn9 k (by omega), HNE.out k hkl]
       · rw [World.putObj_heap_other (by omega), hn9 _ (by omega), HNE.out _ (by omega)]
         exact J4.out
       · exact (J5.out.trans kb.out).trans (((Below.refl _ _).setCell (p := ⟨w.heap.size + 2, 0, none⟩) (show w.heap.size ≤ w.heap.size + 2 by omega) _).trans (below_put _ _ (by omega)))
     · have em : ((m : Int) == (xs.length : Int)) = false := by simp; omega
       have em2 : (m == xs.length) = false := by simp; omega
       have hmlt : Hid (xs.length < m + 1 → hit xs (rxOf t) xs.length = false) := hide (fun h => HJ6.out (by omega))
       clear hml
       gi_wp2
       have hn9 : ∀ k, k ≠ X.heap.size + 1 → (A1.putObj (X.heap.size + 1) (.loop r)).heap[k]? = A.heap[k]? := fun k hk => (World.putObj_heap_other hk).trans (HNE.out k hk)
       have r9 : (A1.putObj (X.heap.size + 1) (.loop r)).heap[X.heap.size + 1]? = some (.loop r) := World.putObj_heap_same (by rw [HS.out]; exact hl1)
       have hall : ∀ k, (A1.putObj (X.heap.size + 1) (.loop r)).heap[k]? = A.heap[k]? := fun k => by
         by_cases he : k = X.heap.size + 1
         · rw [he, r9]; exact J3.out.symm
         · exact hn9 k he
       have b9 : Below w.heap.size A (A1.putObj (X.heap.size + 1) (.loop r)) := kb.out.trans (below_put _ _ (by omega))
       exact ⟨kr.out, .inl ⟨rfl, ⟨b9.os, b9.tape, b9.output, b9.size, fun k _ => hall k, fun k _ _ _ => hall k, fun k _ ho => ho.of (hall _).symm.symm⟩, (hall _).trans J1.out, (hall _).trans J2.out, r9, (hall _).trans J4.out, J5.out.trans b9, hmlt.out⟩⟩
   rintro e W' ⟨hv, h⟩
   refine ⟨hv, ?_⟩
   rcases h with ⟨j1, j2, j3, j4, j5, j6⟩ | ⟨_, _, j1, ⟨rd, e1, e2, j3⟩, j4, j5, j6⟩
   · have HY : Hid (¬ AllP t xs) := hide (fun h => by
       have h1 := (hit_iff xs (rxOf t) xs.length (Nat.le_refl _)).2 (by rw [List.take_length]; exact h.2)
       rw [j6 (by omega)] at h1
       cases h1)
     refine .inl ⟨j3, fun r' => ?_⟩
     have hnp : ∀ k, k ≠ X.heap.size + 1 → (W'.putObj (X.heap.size + 1) (.loop r')).heap[k]? = W'.heap[k]? := fun k hk => World.putObj_heap_other hk
     have q1 := (hnp (w.heap.size + 2) (by omega)).trans j1
     have q4 := (hnp X.heap.size (by omega)).trans j4
     have q5 := j5.trans (below_put (n := w.heap.size) W' (.loop r') (show w.heap.size ≤ X.heap.size + 1 by omega))
     clear j1 j2 j3 j4 j5 j6 hnp
     generalize W'.putObj (X.heap.size + 1) (.loop r') = W9 at *
     have c1 : W9.cell? ⟨w.heap.size + 2, 0, none⟩ = some (.bool false) := by simp [World.cell?, q1]
     have c2 : W9.frozen? ⟨w.heap.size + 2, 0, none⟩ = false := by simp [World.frozen?, q1]
     gi_wp2
     have q4' := (Below.heap_setCell W9 ⟨w.heap.size + 2, 0, none⟩ (.bool false) X.heap.size (by show X.heap.size ≠ w.heap.size + 2; omega)).trans q4
     have q1' : ((W9.setCell ⟨w.heap.size + 2, 0, none⟩ (.bool false)).putObj X.heap.size (.deferred none)).heap[w.heap.size + 2]? = some (.cells #[.bool false] 4) := by
       rw [World.putObj_heap_other (by omega)]
       simp [World.setCell, Array.getElem?_modify, q1]
     refine ⟨by simp, .inl ⟨_, _, rfl, run_takeDeferred q4', ?_⟩⟩
     exact ⟨_, res37 _ _ (w.heap.size + 2) false rfl (by simp [World.cell?, q1']), U.told_no HY.out, (q5.setCell (p := ⟨w.heap.size + 2, 0, none⟩) (by show w.heap.size ≤ w.heap.size + 2; omega) _).trans (below_put _ _ (by omega))⟩
   · have HY : Hid (AllP t xs) := hide ⟨hI.out, by have := (hit_iff xs (rxOf t) xs.length (Nat.le_refl _)).1 j6; rw [List.take_length] at this; exact this⟩
     refine .inr ⟨rd, e1, e2, j3, fun r' => ?_⟩
     have hnp : ∀ k, k ≠ X.heap.size + 1 → (W'.putObj (X.heap.size + 1) (.loop r')).heap[k]? = W'.heap[k]? := fun k hk => World.putObj_heap_other hk
     have q1 := (hnp (w.heap.size + 2) (by omega)).trans j1
     have q4 := (hnp X.heap.size (by omega)).trans j4
     have q5 := j5.trans (below_put (n := w.heap.size) W' (.loop r') (show w.heap.size ≤ X.heap.size + 1 by omega))
     clear j1 j3 j4 j5 j6 hnp
     generalize W'.putObj (X.heap.size + 1) (.loop r') = W9 at *
     gi_wp2
     have q1' : (W9.putObj X.heap.size (.deferred none)).heap[w.heap.size + 2]? = some (.cells #[.bool true] 4) := by
       rw [World.putObj_heap_other (by omega)]
       exact q1
     refine ⟨by simp, .inl ⟨_, _, rfl, run_takeDeferred q4, ?_⟩⟩
     exact ⟨_, res37 _ _ (w.heap.size + 2) true rfl (by simp [World.cell?, q1']), U.told_yes HY.out, q5.trans (below_put _ _ (by omega))⟩
theorem allM_any (t : T) (d : ND) (w : World) (htab : Tabs w) (hT : TR w (fun _ => True) t d.v) (hps : (E.pre t t).length ≤ 1000000) (hnb : ∀ p ∈ E.pre t t, E.NodeB p.1) (ao : Option Addr) (cap : Nat) (xs : List Int) (hx : RdC32 w ao xs) (hlen : xs.length ≤ 1000000) :
  Calls Tryz.prog 26 #[d.v, .slice ao xs.length cap] w fun e W' => U.Told (AllP t xs) e ∧ Below w.heap.size w W' := callsIn_wide.1 (allM_in t d w htab hT hps hnb ao cap xs hx hlen)
set_option maxRecDepth 100000 in
set_option maxHeartbeats 1000000 in
theorem nullM_any (t : T) (d : ND) (w : World) (htab : Tabs w) (hT : TR w (fun _ => True) t d.v) (hps : (E.pre t t).length ≤ 1000000) (hnb : ∀ p ∈ E.pre t t, E.NodeB p.1) :
   Calls Tryz.prog 39 #[d.v] w fun e W' => U.Told (AllP t []) e ∧ Below w.heap.size w W' := by
 have a1 := al1 w (.cells #[.int .i64 d.k, .int .i64 d.a, .slice d.sp d.sl d.sc, .string d.n, .slice d.kp d.kl d.kc] 26)
 have h1 := allM_any t d _ (htab.later a1) (TR.later (fun k hk => a1.block k hk) _ hT) hps hnb none 0 [] (fun i hi => by simp at hi) (by simp)
 unfold ND.v at h1 ⊢
 rw [List.length_nil] at h1
 go_enter Tryz.func39, Tryz.ntmps39
 go_wp2_with fail
 refine h1.mono ?_
 rintro e W1 ⟨⟨b, rfl, hb⟩, hb1⟩
 have HB := hide hb
 have b1 := nx a1 hb1
 clear h1 hb hb1
 go_wp2
 go_ret
 exact ⟨⟨b, rfl, HB.out⟩, b1⟩
end Go.Proofs.YtemanednddhfaaaGreatDoor
namespace Go.Proofs.YtemanednddhfaaaGreatDoor
open Go.RowKit Go.Shelf
open E (Ps Rx T rxOf Vp)
attribute [local go_sem] Oper.semAt_some
set_option maxRecDepth 100000 in
set_option maxHeartbeats 1000000 in
theorem within_any (ao : Option Addr) (n cap : Nat) (p : Int) (w : World) : Calls Tryz.prog 65 #[.slice ao n cap, .int .i64 p] w fun e w' => U.Told (0 ≤ p ∧ p ≤ (n : Int)) e ∧ w' = w := by
 go_enter Tryz.func65, Tryz.ntmps65
 by_cases h0 : 0 ≤ p
 · go_wp2
   go_ret
   exact ⟨⟨_, rfl, by simp [h0]⟩, rfl⟩
 · have h0' : p < 0 := by omega
   go_wp2
   go_ret
   exact ⟨U.told_no (fun h => by omega), rfl⟩
set_option maxRecDepth 100000 in
theorem cut_from8 {w : World} {ao : Option Addr} {cap : Nat} {xs : List Int} (hx : RdC32 w ao xs) (f : Nat) (hf : f ≤ xs.length) (hc : xs.length ≤ cap) : ∃ ao', (∀ wx : World, (Instr.slice 53 (.slice ao xs.length cap) (some (.int .i64 (f : Int))) none none).run Tryz.prog wx = .ok (.slice ao' (xs.drop f).length (cap - f)) wx) ∧ RdC32 w ao' (xs.drop f) := by
 refine ⟨if cap = f then ao else ao.map (·.add (f * 1)), fun wx => ?_, fun i hi => ?_⟩
 · have h := run_slice_l (P := Tryz.prog) (w := wx) 53 ao xs.length cap Tryz.underlying53 .i64 (f : Int) (by omega) (by omega)
   rw [h, elemSize53]
   simp only [Result.andThen, sliced, Int.toNat_natCast, List.length_drop]
 · rw [List.length_drop] at hi
   obtain ⟨b, off, e, h1⟩ := hx (f + i) (by omega)
   rw [if_neg (by omega), e]
   refine ⟨b, off + f, by simp [Addr.add], ?_⟩
   rw [show off + f + i = off + (f + i) by omega, h1]
   simp
set_option maxRecDepth 100000 in
theorem cut_to8 {w : World} {ao : Option Addr} {cap : Nat} {xs : List Int} (hx : RdC32 w ao xs) (f : Nat) (hf : f ≤ xs.length) (hc : xs.length ≤ cap) : ∃ ao', (∀ wx : World, (Instr.slice 53 (.slice ao xs.length cap) none (some (.int .i64 (f : Int))) none).run Tryz.prog wx = .ok (.slice ao' (xs.take f).length (cap - 0)) wx) ∧ RdC32 w ao' (xs.take f) := by
 refine ⟨if cap = 0 then ao else ao.map (·.add (0 * 1)), fun wx => ?_, fun i hi => ?_⟩
 · have h := run_slice_h (P := Tryz.prog) (w := wx) 53 ao xs.length cap Tryz.underlying53 .i64 (f : Int) (by omega) (by omega)
   rw [h, elemSize53]
   simp only [Result.andThen, sliced, Int.toNat_natCast, List.length_take, Nat.sub_zero, Nat.min_eq_left hf]
 · rw [List.length_take] at hi
   obtain ⟨b, off, e, h1⟩ := hx i (by omega)
   rw [if_neg (by omega), e]
   exact ⟨b, off, by simp [Addr.add], by rw [h1]; simp⟩
theorem Rcl.slf {w : World} {ρ : Operand → Value} {o : Oper} {x y : Operand} {ao : Option Addr} {n c : Nat} {vy v : Value} (hop : o.op = .slice 53 x (some y) none none) (hx : ρ x = .slice ao n c) (hy : ρ y = vy) (h : (Instr.slice 53 (.slice ao n c) (some vy) none none).run Tryz.prog w = .ok v w) : (execOp ρ o).run Tryz.prog w = .ok (.value v) w := by
 obtain ⟨dst, op, type, pos, after, guard⟩ := o
 simp only at hop
 subst hop
 simp [execOp, hx, hy, Instr.sliceAt, h, Result.andThen]
theorem Rcl.slt {w : World} {ρ : Operand → Value} {o : Oper} {x y : Operand} {ao : Option Addr} {n c : Nat} {vy v : Value} (hop : o.op = .slice 53 x none (some y) none) (hx : ρ x = .slice ao n c) (hy : ρ y = vy) (h : (Instr.slice 53 (.slice ao n c) none (some vy) none).run Tryz.prog w = .ok v w) : (execOp ρ o).run Tryz.prog w = .ok (.value v) w := by
 obtain ⟨dst, op, type, pos, after, guard⟩ := o
 simp only at hop
 subst hop
 simp [execOp, hx, hy, Instr.sliceAt, h, Result.andThen]
theorem Rcl.mvE {w : World} {ρ : Operand → Value} {o : Oper} {x : Operand} {v : Value} (hop : o.op = .move x) (hx : ρ x = v) : (execOp ρ o).run Tryz.prog w = .ok (.value v) w := by
 obtain ⟨dst, op, type, pos, after, guard⟩ := o
 simp only at hop
 subst hop
 simp [execOp, hx]
def OwnI (w : World) (B : Nat) (v : Value) (zs : List Int) : Prop := w.ownsRow B 3 1 v zs.length (zs.map (Value.int .i64))
theorem ownI_nil (w : World) (B : Nat) : OwnI w B (.slice none 0 0) [] := World.ownsRow_nil w _ _ _
theorem OwnI.same {w w' : World} {B : Nat} {v : Value} {ss : List Int} (h : OwnI w B v ss) (hs : ∀ (g : Nat) (o : Obj), v.ownBlock = some g → w.heap[g]? = some o → w'.heap[g]? = some o) : OwnI w' B v ss := by
 obtain ⟨h1, h2 | ⟨g, cap, cur, rfl, h3, h4, h5⟩⟩ := h
 · exact ⟨h1, .inl h2⟩
 · exact ⟨h1, .inr ⟨g, cap, cur, rfl, h3, hs g _ rfl h4, h5⟩⟩
theorem OwnI.lt {w : World} {B : Nat} {v : Value} {ss : List Int} (h : OwnI w B v ss) {g : Nat} (hg : v.ownBlock = some g) : g < w.heap.size ∧ B ≤ g := by
 obtain ⟨_, ⟨rfl, _⟩ | ⟨g', cap, cur, rfl, h3, h4, _⟩⟩ := h
 · cases hg
 · cases hg
   exact ⟨(Array.getElem?_eq_some_iff.1 h4).1, h3⟩
def IB (B pb : Nat) (ss : List Int) (A : World) : Prop := ∃ v, A.heap[pb]? = some (.cells #[v] 60) ∧ OwnI A B v ss
theorem IB.ow {B pb : Nat} {ss : List Int} {A : World} (h : IB B pb ss A) {k : Nat} (ho : Ow pb A k) : k < A.heap.size ∧ B ≤ k := by
 obtain ⟨v, h1, h2⟩ := h
 obtain ⟨v', t, f, h3, h4⟩ := ho
 rw [h1] at h3
 cases h3
 exact h2.lt h4
theorem IB.keep {B pb n : Nat} {ss : List Int} {A A' : World} (h : IB B pb ss A) (hk : KpO pb n A A') (hp : pb < n) : IB B pb ss A' := by
 obtain ⟨v, h1, h2⟩ := h
 refine ⟨v, (hk.below.block pb hp).trans h1, h2.same fun g o hv hg => (hk.own g (Array.getElem?_eq_some_iff.1 hg).1 ⟨v, _, _, h1, hv⟩).trans hg⟩
theorem IB.put {B pb x : Nat} {ss : List Int} {A : World} (h : IB B pb ss A) (hb : pb ≠ x) (hx : ¬ Ow pb A x) (o' : Obj) : IB B pb ss (A.putObj x o') := by
 obtain ⟨v, h1, h2⟩ := h
 refine ⟨v, (World.putObj_heap_other hb).trans h1, h2.same fun g o hv hg => (World.putObj_heap_other ?_).trans hg⟩
 rintro rfl
 exact hx ⟨v, _, _, h1, hv⟩
theorem info3N : (Tryz.prog.info? 3).map (fun i => (i.zero, i.size, i.bytes)) = some (some (.int .i64 0), 1, 8) := by kernel_rfl
def pls (zs : List Int) (x : Rx) (g : Nat → Int) (m : Nat) : List Int := ((List.range m).filter (hit zs x)).map g
theorem pls_succ (zs : List Int) (x : Rx) (g : Nat → Int) (m : Nat) : pls zs x g (m + 1) = pls zs x g m ++ if hit zs x m then [g m] else [] := by
 unfold pls
 rw [List.range_succ, List.filter_append, List.map_append]
 cases h : hit zs x m <;> simp [h]
theorem pls_le (zs : List Int) (x : Rx) (g : Nat → Int) (m : Nat) : (pls zs x g m).length ≤ m := by
 unfold pls
 rw [List.length_map]
 exact Nat.le_trans (List.length_filter_le _ _) (by simp)
theorem ib_app {A1 w1 : World} {B pb : Nat} {ss : List Int} {s : Int} {v v' : Value} {tmp : Obj} (hpB : pb < B) (hBA : B ≤ A1.heap.size) (h1 : A1.heap[pb]? = some (.cells #[v] 60)) (ho : OwnI A1 B v ss)
   (hown : w1.ownsRow B 3 1 v' (ss.length + 1) (ss.map (Value.int .i64) ++ [.int .i64 s])) (hg : (A1.alloc tmp).grownBy w1 v.ownBlock) (hat : v'.ownBlock = v.ownBlock ∨ v'.ownBlock = some (A1.alloc tmp).heap.size) :
   w1.heap[pb]? = some (.cells #[v] 60) ∧ IB B pb (ss ++ [s]) (w1.setCell ⟨pb, 0, none⟩ v') ∧ (∀ k, k ≠ pb → k < A1.heap.size → ¬ Ow pb A1 k → (w1.setCell ⟨pb, 0, none⟩ v').heap[k]? = A1.heap[k]?) ∧ (∀ k, k < A1.heap.size → Ow pb (w1.setCell ⟨pb, 0, none⟩ v') k → Ow pb A1 k) ∧ A1.heap.size ≤ (w1.setCell ⟨pb, 0, none⟩ v').heap.size ∧ (w1.setCell ⟨pb, 0, none⟩ v').os = A1.os ∧ (w1.setCell ⟨pb, 0, none⟩ v').tape = A1.tape ∧ (w1.setCell ⟨pb, 0, none⟩ v').output = A1.output := by
 have hk : ∀ k, k < A1.heap.size → ¬ Ow pb A1 k → w1.heap[k]? = A1.heap[k]? := fun k hk hn => (hg.block k (by simp; omega) (fun e => hn ⟨v, _, _, h1, e.symm⟩)).trans (Below.heap_alloc _ _ _ hk)
 have hpn : ¬ Ow pb A1 pb := fun h => by
   obtain ⟨v2, t, f, h3, h4⟩ := h
   rw [h1] at h3
   cases h3
   have := (ho.lt h4).2
   omega
 have hp1 := (hk pb (by omega) hpn).trans h1
 have hne : ∀ k, k ≠ pb → (w1.setCell ⟨pb, 0, none⟩ v').heap[k]? = w1.heap[k]? := fun k hk => Below.heap_setCell _ _ _ _ hk
 have hpb' : (w1.setCell ⟨pb, 0, none⟩ v').heap[pb]? = some (.cells #[v'] 60) := by simp [World.setCell, Array.getElem?_modify, hp1]
 have hs1 : A1.heap.size ≤ w1.heap.size := Nat.le_trans (by simp) hg.size
 have hsz : (w1.setCell ⟨pb, 0, none⟩ v').heap.size = w1.heap.size := by simp [World.setCell]
 have ho1 : OwnI w1 B v' (ss ++ [s]) := by
   unfold OwnI
   rw [List.length_append, List.map_append]
   exact hown
 refine ⟨hp1, ⟨v', hpb', ho1.same fun g o hv hg' => (hne g (by have := (ho1.lt hv).2; omega)).trans hg'⟩, fun k h2 h3 h4 => (hne k h2).trans (hk k h3 h4), fun k h2 ho' => ?_, by omega, hg.os, hg.tape, hg.output⟩
 obtain ⟨v2, t, f, h3, h4⟩ := ho'
 rw [hpb'] at h3
 cases h3
 rcases hat with h5 | h5
 · exact ⟨v, _, _, h1, h5 ▸ h4⟩
 · rw [h5] at h4
   simp at h4
   omega
end Go.Proofs.YtemanednddhfaaaGreatDoor
