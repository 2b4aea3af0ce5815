/- Joined: Nml. -/
import Derived.Test.YtgngaldoemopjaaGreatDoorFPlc
import Derived.Test.YtgngaldoemopjaaGreatDoorFRstx
import Derived.Sort.OwnSorted
import Derived.Sort.Grow
import Derived.Lib.OwnBridge
import Derived.Maps.AppendAt
namespace Go.Proofs.YtgngaldoemopjaaGreatDoor
open Go.RowKit Go.Shelf Go.Sort
open E (T)
attribute [local go_sem] Oper.semAt_some
namespace E
def vnk (ps : List (T × T)) : List (List UInt8) := (ps.filter fun p => decide (p.1.kind = 2)).map fun p => p.1.name
theorem vnk_le (ps : List (T × T)) : (vnk ps).length ≤ ps.length := by unfold vnk; rw [List.length_map]; exact List.length_filter_le _ _
theorem vnk_snoc (ps : List (T × T)) (p : T × T) : vnk (ps ++ [p]) = vnk ps ++ if p.1.kind = 2 then [p.1.name] else [] := by
 unfold vnk
 by_cases h : p.1.kind = 2 <;> simp [h]
def nmL (t : T) : List (List UInt8) := Go.Lib.compact ((vnk (pre t t)).mergeSort fun x y => decide (x ≤ y))
end E
def OwnN (w : World) (B : Nat) (v : Value) (ss : List (List UInt8)) : Prop := w.ownsRow B 9 1 v ss.length (ss.map encStr)
theorem ownN_nil (w : World) (B : Nat) : OwnN w B (.slice none 0 0) [] := World.ownsRow_nil w _ _ _
theorem OwnN.same {w w' : World} {B : Nat} {v : Value} {ss : List (List UInt8)} (h : OwnN w B v ss) (hs : ∀ (g : Nat) (o : Obj), w.heap[g]? = some o → notS (some o) = false → w'.heap[g]? = some o) : OwnN w' B v ss := by
 obtain ⟨h1, h2 | ⟨g, cap, cur, rfl, h3, h4, h5⟩⟩ := h
 · exact ⟨h1, .inl h2⟩
 · exact ⟨h1, .inr ⟨g, cap, cur, rfl, h3, hs g _ h4 rfl, h5⟩⟩
theorem OwnN.alloc {w : World} {B : Nat} {v : Value} {ss : List (List UInt8)} (h : OwnN w B v ss) (o : Obj) : OwnN (w.alloc o) B v ss :=
 h.same fun g _ hg _ => ((al1 w o).block g (Array.getElem?_eq_some_iff.1 hg).1).trans hg
theorem OwnN.put {w : World} {B x : Nat} {v : Value} {ss : List (List UInt8)} (h : OwnN w B v ss) (o' : Obj) {o : Obj} (hx : w.heap[x]? = some o) (hn : notS (some o) = true) : OwnN (w.putObj x o') B v ss :=
 h.same fun g o2 hg hs => by
   refine (World.putObj_heap_other ?_).trans hg
   rintro rfl
   rw [hx] at hg
   cases hg
   rw [hn] at hs
   cases hs
def NB (w : World) (b : Nat) (ss : List (List UInt8)) (A : World) : Prop := ∃ v, A.heap[b]? = some (.cells #[v] 81) ∧ OwnN A w.heap.size v ss
theorem NB.keep {w : World} {b n : Nat} {ss : List (List UInt8)} {A B : World} (h : NB w b ss A) (hk : KpT n A B) (hb : b < n) : NB w b ss B := by
 obtain ⟨v, h1, h2⟩ := h
 exact ⟨v, (hk.below.block b hb).trans h1, h2.same fun g o hg hs => (hk.txt g (Array.getElem?_eq_some_iff.1 hg).1 (by rw [hg]; exact hs)).trans hg⟩
theorem NB.put {w : World} {b x : Nat} {ss : List (List UInt8)} {A : World} (h : NB w b ss A) (hb : b ≠ x) {o o' : Obj} (hx : A.heap[x]? = some o) (hn : notS (some o) = true) : NB w b ss (A.putObj x o') := by
 obtain ⟨v, h1, h2⟩ := h
 exact ⟨v, (World.putObj_heap_other hb).trans h1, h2.put o' hx hn⟩
theorem info9N : (Tryz.prog.info? 9).map (fun i => (i.zero, i.size, i.bytes)) = some (some (.string ByteArray.empty), 1, 16) := by kernel_rfl
theorem info_parts9 {e : TypeId} {z : Value} {n k : Nat} (h : (Tryz.prog.info? e).map (fun i => (i.zero, i.size, i.bytes)) = some (some z, n, k)) : ∃ i, Tryz.prog.info? e = some i ∧ i.zero = some z ∧ i.size = n ∧ i.bytes = k := by
 cases hi : Tryz.prog.info? e with
 | none => rw [hi] at h; cases h
 | some i =>
   rw [hi] at h
   simp at h
   exact ⟨i, rfl, h.1, h.2.1, h.2.2⟩
theorem TR.nameE {w : World} {ok : Nat → Prop} {t : T} {d : ND} (h : TR w ok t d.v) : d.n = ⟨t.name.toArray⟩ := by
 cases t with
 | mk k a s n ks =>
   rw [TR] at h
   obtain ⟨sp, sc, kp, kc, e, _⟩ := h
   unfold ND.v at e
   simp only [Value.agg.injEq, Array.mk.injEq, List.cons.injEq, Value.string.injEq] at e
   exact e.2.2.2.1
theorem Rst.startR {ops : Array Oper} {Q : Exit → Act → World → Prop} {a : Act} {w : World} {id lp n : Nat} (s : Nat) (T : World → Prop) (hm : Tryz.prog.follows .mixedOrders = true) (hp : plainOps ops = true) (hQ : ¬ LetsOut Q) (h : Rst.G2 ops Q a s T ops.size [] [] w.drew) :
   (Code.region id ops true).wpIn (Fence.wide.inRound lp) n Tryz.prog Q a w :=
 wpIn_region_any hm (any_round hp hQ _ _ _ _ (Rst.any_of _ _ _ _ h))
def SrtN (B : Nat) (ss : List (List UInt8)) (w : World) (v : Value) (w' : World) : Prop :=
 OwnN w' B v (ss.mergeSort fun x y => decide (x ≤ y)) ∧ w.grownBy w' v.ownBlock
theorem merge_len (ss : List (List UInt8)) : (ss.mergeSort fun x y => decide (x ≤ y)).length = ss.length := List.length_mergeSort ss
theorem sort_row (w : World) (B : Nat) (v : Value) (ss : List (List UInt8)) (ho : OwnN w B v ss) (hl : ss.length ≤ 1000000) : Calls Tryz.prog 61 #[v] w fun e w' => e = .returned (.tuple #[]) ∧ SrtN B ss w v w' := by
 by_cases hv : v = .slice none 0 0
 · subst hv
   have hs : ss = [] := by
     obtain ⟨_, ⟨_, h⟩ | ⟨g, cap, cur, e, _⟩⟩ := ho
     · exact List.eq_nil_of_length_eq_zero h
     · cases e
   subst hs
   refine (Any.slices_Sort_string_none lays190 none 0 w).mono ?_
   rintro e w' ⟨rfl, rfl⟩
   exact ⟨rfl, by simpa using ho, ⟨rfl, rfl, rfl, Nat.le_refl _, fun _ _ _ => rfl⟩⟩
 · obtain ⟨g, cap, rfl, hbg, hgl, hncap, hcm, _, hH⟩ := Lib.holds_of_ownsRow ho hv
   refine (calls_of_every_depth fun D => AnyS.slices_Sort_string_alone lays190 D g 0 cap ss w hH hgl (by omega)).mono ?_
   rintro e w' ⟨rfl, n, os, rfl⟩
   refine ⟨rfl, ?_, grownBy_sorted _⟩
   rcases ho.2 with ⟨h0, _⟩ | ⟨g', cap', cur, hv', hbase, hb, h1, h2, h3, h4⟩
   · exact absurd h0 hv
   · cases hv'
     unfold OwnN
     rw [merge_len]
     exact ownsRow_sorted (merge_len ss) hbase hb h1 h2 h3
theorem compact_row (w : World) (B : Nat) (v : Value) (zs : List (List UInt8)) (ho : OwnN w B v zs) (hl : zs.length ≤ 1000000) : Calls Tryz.prog 62 #[v] w fun e w' => ∃ u, e = .returned u ∧ OwnN w' B u (Lib.compact zs) ∧ w.grownBy w' v.ownBlock := by
 by_cases hv : v = .slice none 0 0
 · subst hv
   have hs : zs = [] := by
     obtain ⟨_, ⟨_, h⟩ | ⟨g, cap, cur, e, _⟩⟩ := ho
     · exact List.eq_nil_of_length_eq_zero h
     · cases e
   subst hs
   refine (Any.slices_Compact_string_empty lays194 none 0 w).mono ?_
   rintro e w' ⟨rfl, rfl⟩
   exact ⟨_, rfl, ownN_nil _ _, ⟨rfl, rfl, rfl, Nat.le_refl _, fun _ _ _ => rfl⟩⟩
 · obtain ⟨g, cap, rfl, hbg, hgl, hncap, hcm, _, hH⟩ := Lib.holds_of_ownsRow ho hv
   refine (Any.slices_Compact_string lays194 g 0 cap zs w hH (by omega) hncap).mono ?_
   rintro e w' ⟨rfl, q, rfl⟩
   have hle := Lib.compact_length_le zs
   refine ⟨_, rfl, ?_, ?_⟩
   · have hc := Lib.ownsRow_putRow (q := q) (k := (Lib.compact zs).length) (ys := Lib.compact zs ++ List.replicate (zs.length - (Lib.compact zs).length) []) ho (by simp; omega) hle
     rw [List.take_left] at hc
     exact hc
   · have := grownBy_sorted (w := w) (g := g) (n := q) (os := #[]) (Lib.compact zs ++ List.replicate (zs.length - (Lib.compact zs).length) []).toArray
     rw [grow_empty] at this
     exact this
theorem OwnN.stay {w w' : World} {B : Nat} {v : Value} {ss : List (List UInt8)} (ho : OwnN w B v ss) (hg : w.grownBy w' v.ownBlock) {k : Nat} {o : Obj} (hk : w.heap[k]? = some o) (hn : notS (some o) = true) : w'.heap[k]? = some o := by
 refine (hg.block k (Array.getElem?_eq_some_iff.1 hk).1 (fun e => ?_)).trans hk
 obtain ⟨_, ⟨rfl, _⟩ | ⟨g, cap, cur, rfl, _, hb, _⟩⟩ := ho
 · simp [Value.ownBlock] at e
 · simp [Value.ownBlock] at e
   subst e
   rw [hk] at hb
   cases hb
   cases hn
theorem OwnN.bel {w w' : World} {B : Nat} {v : Value} {ss : List (List UInt8)} (ho : OwnN w B v ss) (hg : w.grownBy w' v.ownBlock) (hB : B ≤ w.heap.size) : Below B w w' :=
 (Below.refl _ _).grown hg hB (fun k hk => by
   obtain ⟨_, ⟨rfl, _⟩ | ⟨g, cap, cur, rfl, hb, _⟩⟩ := ho
   · simp [Value.ownBlock] at hk
   · simp [Value.ownBlock] at hk; omega)
theorem fa3N {w : World} {ρ : Operand → Value} {o : Oper} {x : Operand} {b off : Nat} (hop : o.op = .fieldAddr 25 x 3) (hx : ρ x = .pointer (some ⟨b, off, none⟩)) : (execOp ρ o).run Tryz.prog w = .ok (.value (.pointer (some ⟨b, off + 3, none⟩))) w := by
 obtain ⟨dst, op, type, pos, after, guard⟩ := o
 simp only at hop
 subst hop
 simp [execOp, hx, go_sem]
set_option maxRecDepth 100000 in
set_option maxHeartbeats 8000000 in
theorem names_in (t : T) (d : ND) (w : World) (hT : TR w (fun _ => True) t d.v) (hps : (E.pre t t).length ≤ 1000000) (hnl : ∀ p ∈ E.pre t t, p.1.name.length ≤ 100000) :
   CallsIn Fence.wide 9 Tryz.prog 35 #[d.v] w fun e W' => ∃ u, e = .returned u ∧ OwnN W' w.heap.size u (E.nmL t) ∧ Below w.heap.size w W' := by
 obtain ⟨i0, hi0, hz0, hz1, hz2⟩ := info_parts9 info9N
 have hmk := fun W => nodes_make d W
 unfold ND.v at hmk
 refine callsIn_of_wp_marks Tryz.func35 rfl trivial ?_ rfl
 simp only [ND.v, Tryz.ntmps35, List.size_toArray, List.length_cons, List.length_nil, Nat.reduceAdd, Nat.reduceSub, Array.replicate_succ, Array.replicate_zero, List.push_toArray, List.append_toArray, List.nil_append, List.cons_append]
 gi_wp2_with (refine ⟨trivial, ?_⟩; gi_at_call 58; refine (callsIn_wide.2 (hmk _)).mono ?_; rintro e w2 ⟨rfl, rfl⟩)
 have a1 := al1 w (.cells #[.int .i64 d.k, .int .i64 d.a, .slice d.sp d.sl d.sc, .string d.n, .slice d.kp d.kl d.kc] 25)
 have s1 : (w.alloc (.cells #[.int .i64 d.k, .int .i64 d.a, .slice d.sp d.sl d.sc, .string d.n, .slice d.kp d.kl d.kc] 25)).heap.size = w.heap.size + 1 := by simp
 obtain ⟨X1, hX1⟩ : ∃ X1, w.alloc (.cells #[.int .i64 d.k, .int .i64 d.a, .slice d.sp d.sl d.sc, .string d.n, .slice d.kp d.kl d.kc] 25) = X1 := ⟨_, rfl⟩
 rw [hX1] at a1 s1 ⊢
 have a2 := al1 X1 (.cells #[.slice none 0 0] 81)
 have n2 := heap_alloc_new X1 (.cells #[.slice none 0 0] 81)
 have s2 : (X1.alloc (.cells #[.slice none 0 0] 81)).heap.size = w.heap.size + 2 := by simp [s1]
 obtain ⟨X2, hX2⟩ : ∃ X2, X1.alloc (.cells #[.slice none 0 0] 81) = X2 := ⟨_, rfl⟩
 rw [hX2] at a2 n2 s2 ⊢
 rw [s1] at n2
 have a3 := al1 X2 (.cells #[.int .i64 d.k, .int .i64 d.a, .slice d.sp d.sl d.sc, .string d.n, .slice d.kp d.kl d.kc] 25)
 have n3 := heap_alloc_new X2 (.cells #[.int .i64 d.k, .int .i64 d.a, .slice d.sp d.sl d.sc, .string d.n, .slice d.kp d.kl d.kc] 25)
 have s3 : (X2.alloc (.cells #[.int .i64 d.k, .int .i64 d.a, .slice d.sp d.sl d.sc, .string d.n, .slice d.kp d.kl d.kc] 25)).heap.size = w.heap.size + 3 := by simp [s2]
 obtain ⟨X3, hX3⟩ : ∃ X3, X2.alloc (.cells #[.int .i64 d.k, .int .i64 d.a, .slice d.sp d.sl d.sc, .string d.n, .slice d.kp d.kl d.kc] 25) = X3 := ⟨_, rfl⟩
 rw [hX3] at a3 n3 s3 ⊢
 rw [s2] at n3
 have n2' := (a3.block (w.heap.size + 1) (by omega)).trans n2
 have bX := nx a1 (nx a2 a3)
 have z3 : w.heap.size + 3 ≤ X3.heap.size := by omega
 clear hX1 hX2 hX3 a1 a2 a3 n2 s1 s2 s3
 refine enter3 (gf := 89) (lb := #[.pointer (some ⟨w.heap.size + 1 + 1, 0, none⟩)]) rfl (enters_of Tryz.func89 (by kernel_rfl) rfl) ?_
 intro r We hr hrec hdef hszE hbE
 have bE := nx bX hbE
 refine (nodes_in 8 (by omega) w t d hT hps (w.heap.size + 2) (w.heap.size + 2) (X3.heap.size + 1) (by omega) (Nat.le_refl _)
   (fun i A => NB w (w.heap.size + 1) (E.vnk ((E.pre t t).take i)) A ∧ A.heap[X3.heap.size + 1]? = some (.loop r) ∧ A.heap[X3.heap.size]? = some (.deferred (some [])) ∧ Below w.heap.size w A)
   (fun _ _ => False) We ((hbE.block _ (by omega)).trans n3) bE ?stable (fun _ _ _ h => h.elim) ?round (by omega) ?start).mono ?_
 case stable =>
   rintro i A A' ⟨j1, j2, j3, j4⟩ hb
   exact ⟨j1.keep hb (by omega), (hb.below.block _ (by omega)).trans j2, (hb.below.block _ (by omega)).trans j3, j4.trans (hb.below.mono (by omega))⟩
 case start => exact ⟨⟨_, (hbE.block _ (by omega)).trans n2', ownN_nil _ _⟩, hrec.out, hdef.out, bE⟩
 case round =>
   rintro i hi A d1 ⟨j1, j2, j3, j4⟩ hle hBA ht1
   have hkd := ht1.kindE
   have hnd := hide ht1.nameE
   have hmem : (E.pre t t)[i] ∈ E.pre t t := List.getElem_mem hi
   have hnb := hnl _ hmem
   have HTK : Hid (E.vnk ((E.pre t t).take (i + 1)) = E.vnk ((E.pre t t).take i) ++ if (E.pre t t)[i].1.kind = 2 then [(E.pre t t)[i].1.name] else []) := hide (by rw [List.take_succ_eq_append_getElem hi, E.vnk_snoc])
   have hcl := E.vnk_le ((E.pre t t).take i)
   rw [List.length_take] at hcl
   have hc6 : (E.vnk ((E.pre t t).take i)).length ≤ 1000000 := by omega
   have HTK2 := hide HTK.out
   rw [← hkd] at HTK2
   obtain ⟨nn, hnn⟩ : ∃ nn, (E.pre t t)[i].1.name = nn := ⟨_, rfl⟩
   rw [hnn] at HTK2 hnb hnd
   obtain ⟨cc, hcc⟩ : ∃ cc, E.vnk ((E.pre t t).take i) = cc := ⟨_, rfl⟩
   rw [hcc] at hc6 j1 HTK2
   clear hcl HTK hcc hkd hmem hnn
   refine yield3 hr j2 rfl ?_
   unfold ND.v
   gi_wp2
   have hl1 : X3.heap.size + 1 < A.heap.size := (Array.getElem?_eq_some_iff.1 j2).1
   have ha := al1 A (.cells #[.int .i64 d1.k, .int .i64 d1.a, .slice d1.sp d1.sl d1.sc, .string d1.n, .slice d1.kp d1.kl d1.kc] 25)
   have hx3 := heap_alloc_new A (.cells #[.int .i64 d1.k, .int .i64 d1.a, .slice d1.sp d1.sl d1.sc, .string d1.n, .slice d1.kp d1.kl d1.kc] 25)
   refine ⟨(ha.block _ hl1).trans j2, ?_⟩
   intro rb
   have hne : ∀ k, k ≠ X3.heap.size + 1 → ((A.alloc (.cells #[.int .i64 d1.k, .int .i64 d1.a, .slice d1.sp d1.sl d1.sc, .string d1.n, .slice d1.kp d1.kl d1.kc] 25)).putObj (X3.heap.size + 1) (.loop rb)).heap[k]? = (A.alloc (.cells #[.int .i64 d1.k, .int .i64 d1.a, .slice d1.sp d1.sl d1.sc, .string d1.n, .slice d1.kp d1.kl d1.kc] 25)).heap[k]? := fun k hk => World.putObj_heap_other hk
   have k3 : Hid (((A.alloc (.cells #[.int .i64 d1.k, .int .i64 d1.a, .slice d1.sp d1.sl d1.sc, .string d1.n, .slice d1.kp d1.kl d1.kc] 25)).putObj (X3.heap.size + 1) (.loop rb)).heap[X3.heap.size + 1]? = some (.loop rb)) := World.putObj_heap_same (by simp; omega)
   obtain ⟨v, jb, jo⟩ := j1
   have k1 := (hne (w.heap.size + 1) (by omega)).trans ((ha.block _ (by omega)).trans jb)
   have kow : OwnN _ w.heap.size v cc := (jo.alloc (.cells #[.int .i64 d1.k, .int .i64 d1.a, .slice d1.sp d1.sl d1.sc, .string d1.n, .slice d1.kp d1.kl d1.kc] 25)).put (.loop rb) ((ha.block _ hl1).trans j2) rfl
   have kx := (hne A.heap.size (by omega)).trans hx3
   have ksame : Hid (∀ k, k < A.heap.size → k ≠ X3.heap.size + 1 → ((A.alloc (.cells #[.int .i64 d1.k, .int .i64 d1.a, .slice d1.sp d1.sl d1.sc, .string d1.n, .slice d1.kp d1.kl d1.kc] 25)).putObj (X3.heap.size + 1) (.loop rb)).heap[k]? = A.heap[k]?) := hide (fun k hk hk' => (hne k hk').trans (ha.block k hk))
   have kz : A.heap.size < ((A.alloc (.cells #[.int .i64 d1.k, .int .i64 d1.a, .slice d1.sp d1.sl d1.sc, .string d1.n, .slice d1.kp d1.kl d1.kc] 25)).putObj (X3.heap.size + 1) (.loop rb)).heap.size := (Array.getElem?_eq_some_iff.1 kx).1
   have kb : Below w.heap.size A ((A.alloc (.cells #[.int .i64 d1.k, .int .i64 d1.a, .slice d1.sp d1.sl d1.sc, .string d1.n, .slice d1.kp d1.kl d1.kc] 25)).putObj (X3.heap.size + 1) (.loop rb)) := (ha.mono (by omega)).trans (below_put _ _ (by omega))
   obtain ⟨A1, hA1⟩ : ∃ A1, (A.alloc (.cells #[.int .i64 d1.k, .int .i64 d1.a, .slice d1.sp d1.sl d1.sc, .string d1.n, .slice d1.kp d1.kl d1.kc] 25)).putObj (X3.heap.size + 1) (.loop rb) = A1 := ⟨_, rfl⟩
   rw [hA1] at k3 k1 kx kb ksame kz kow ⊢
   clear hA1 hne ha hx3
   have KB := hide kb
   have HJ2 := hide j2
   have HJ3 := hide j3
   have HJ4 := hide j4
   obtain ⟨q0, q1, q2, q3, q4⟩ := cells_five kx
   have cc1 : A1.cell? ⟨w.heap.size + 1, 0, none⟩ = some v := by simp [World.cell?, k1]
   have cf1 : A1.frozen? ⟨w.heap.size + 1, 0, none⟩ = false := by simp [World.frozen?, k1]
   have K1 := hide k1
   have KOW := hide kow
   clear jb jo j2 j3 j4 kb k1 kow
   have fin : ∀ (W4 : World) (ss : List (List UInt8)), NB w (w.heap.size + 1) ss W4 → (∀ k, k ≠ w.heap.size + 1 → k < A1.heap.size → notS A1.heap[k]? = true → W4.heap[k]? = A1.heap[k]?) → (∀ k, k < w.heap.size → W4.heap[k]? = A1.heap[k]?) → A1.heap.size ≤ W4.heap.size → (W4.os = A1.os ∧ W4.tape = A1.tape ∧ W4.output = A1.output) → E.vnk ((E.pre t t).take (i + 1)) = ss →
       W4.heap[X3.heap.size + 1]? = some (.loop rb) ∧ Fr w.heap.size (w.heap.size + 2) A (W4.putObj (X3.heap.size + 1) (.loop r)) ∧ NB w (w.heap.size + 1) (E.vnk ((E.pre t t).take (i + 1))) (W4.putObj (X3.heap.size + 1) (.loop r)) ∧ (W4.putObj (X3.heap.size + 1) (.loop r)).heap[X3.heap.size + 1]? = some (.loop r) ∧ (W4.putObj (X3.heap.size + 1) (.loop r)).heap[X3.heap.size]? = some (.deferred (some [])) ∧ Below w.heap.size w (W4.putObj (X3.heap.size + 1) (.loop r)) := by
     intro W4 ss h1 h2 h2' h3 h4 h5
     have m3 := (h2 (X3.heap.size + 1) (by omega) (Array.getElem?_eq_some_iff.1 k3.out).1 (by rw [k3.out]; rfl)).trans k3.out
     have hnp : ∀ k, k ≠ X3.heap.size + 1 → (W4.putObj (X3.heap.size + 1) (.loop r)).heap[k]? = W4.heap[k]? := fun k hk => World.putObj_heap_other hk
     have hsame : (W4.putObj (X3.heap.size + 1) (.loop r)).heap[X3.heap.size + 1]? = some (.loop r) := World.putObj_heap_same (Array.getElem?_eq_some_iff.1 m3).1
     have hlow : Below w.heap.size A (W4.putObj (X3.heap.size + 1) (.loop r)) := ⟨h4.1.trans KB.out.os, h4.2.1.trans KB.out.tape, h4.2.2.trans KB.out.output, by rw [World.putObj_size]; omega, fun k hk => by rw [hnp k (by omega), h2' k hk]; exact KB.out.block k hk⟩
     have hd3 : A1.heap[X3.heap.size]? = some (.deferred (some [])) := (ksame.out _ (by omega) (by omega)).trans HJ3.out
     refine ⟨m3, ⟨hlow.os, hlow.tape, hlow.output, hlow.size, hlow.block, fun k hk hk' hs => ?_⟩, by rw [h5]; exact h1.put (by omega) m3 rfl, hsame, by rw [hnp _ (by omega), h2 _ (by omega) (by omega) (by rw [hd3]; rfl)]; exact hd3, HJ4.out.trans hlow⟩
     by_cases he : k = X3.heap.size + 1
     · rw [he, hsame]; exact HJ2.out.symm
     · rw [hnp k he, h2 k (by omega) (by omega) (by rw [ksame.out k hk' he]; exact hs)]
       exact ksame.out k hk' he
   have FIN := hide fin
   clear fin
   by_cases hk1 : d1.k = 2
   · have e1 : (d1.k == 2) = true := by simp [hk1]
     rw [if_pos hk1] at HTK2
     clear hk1
     gi_wp2
     have hsz : d1.n.size ≤ 100000 := by rw [hnd.out]; exact hnb
     refine Rst.startR 6 (fun w' => w'.heap[w.heap.size + 1]? = some (.cells #[v] 81) ∧ w'.heap[A.heap.size]? = some (.cells #[.int .i64 d1.k, .int .i64 d1.a, .slice d1.sp d1.sl d1.sc, .string d1.n, .slice d1.kp d1.kl d1.kc] 25)) (by kernel_rfl) (by kernel_rfl) (by rintro ⟨_, _, h⟩; exact h) ?_
     refine Rst.take (fun _ _ _ _ _ h => h) 0 _ 11 v rfl (by kernel_rfl) rfl (by kernel_rfl) (by kernel_rfl) ⟨K1.out, kx⟩ (fun w' hw => Reg.ldS rfl rfl (by simp [World.cell?, hw.1]) (Tryz.isAgg81 _)) ?_
     refine Rst.take (fun _ _ _ _ _ h => h) 1 _ 12 (.pointer (some ⟨A.heap.size, 0 + 3, none⟩)) rfl (by kernel_rfl) rfl (by kernel_rfl) (by kernel_rfl) ⟨K1.out, kx⟩ (fun w' hw => fa3N rfl rfl) ?_
     refine Rst.take (fun _ _ _ _ _ h => h) 2 _ 13 (.string d1.n) rfl (by kernel_rfl) rfl (by kernel_rfl) (by kernel_rfl) ⟨K1.out, kx⟩ (fun w' hw => Reg.ldS rfl rfl (cells_five hw.2).2.2.2.1 (Tryz.isAgg9 _)) ?_
     refine Rst.call 3 _ 14 60 _ _ #[.string d1.n] rfl (by kernel_rfl) rfl (by kernel_rfl) (by kernel_rfl) rfl (by kernel_rfl) (by kernel_rfl) (clone_any d1.n hsz A1.drew) ?_
     rintro e w5 ⟨rfl, hb5⟩
     have p5 : w5.heap[w.heap.size + 1]? = some (.cells #[v] 81) := (hb5.block _ (show w.heap.size + 1 < A1.heap.size by omega)).trans K1.out
     have x5 : w5.heap[A.heap.size]? = some (.cells #[.int .i64 d1.k, .int .i64 d1.a, .slice d1.sp d1.sl d1.sc, .string d1.n, .slice d1.kp d1.kl d1.kc] 25) := (hb5.block _ (show A.heap.size < A1.heap.size by omega)).trans kx
     have o5 : OwnN w5 w.heap.size v cc := KOW.out.same fun g o hg _ => (hb5.block g (Array.getElem?_eq_some_iff.1 hg).1).trans hg
     have s5 : A1.heap.size ≤ w5.heap.size := hb5.size
     refine ⟨_, rfl, ⟨p5, x5⟩, ?_⟩
     have a6 := al1 w5 (.cells #[.string d1.n] 9)
     refine Rst.only 4 _ 15 rfl (by kernel_rfl) rfl (by kernel_rfl) (by kernel_rfl) ⟨.slice (some ⟨w5.heap.size, 0, none⟩) 1 1, w5.alloc (.cells #[.string d1.n] 9), U.Reg.bs (vs := #[(0, .string d1.n)]) (cs := #[.string d1.n]) i0 (.string ByteArray.empty) rfl (by kernel_rfl) Tryz.underlying81 hi0 hz0 (by rw [hz1]; decide) (by rw [hz1]; decide) (by rw [hz1]; kernel_rfl), ⟨(a6.block _ (by omega)).trans p5, (a6.block _ (by omega)).trans x5⟩, ?_⟩
     have o6 := o5.alloc (.cells #[.string d1.n] 9)
     obtain ⟨v', w7, hrun, hown, hgrow, _, hat⟩ := run_append_own_at (P := Tryz.prog) (w5.alloc (.cells #[.string d1.n] 9)) w.heap.size 81 37 9 i0 (.string ByteArray.empty) 1 16 Tryz.underlying81 hi0 hz0 hz1 hz2 rfl (by decide) v cc.length (cc.map encStr) o6 ⟨w5.heap.size, 0, none⟩ 1 1 [.string d1.n] rfl (cell_one_new _ _ _) (by simp [Value.oneCell']) (by unfold maxLen; omega) (by omega) (by simp; omega)
     have st7 : ∀ k o, w5.heap[k]? = some o → notS (some o) = true → w7.heap[k]? = some o := fun k o hk hn => o6.stay hgrow ((a6.block k (Array.getElem?_eq_some_iff.1 hk).1).trans hk) hn
     have p7 := st7 _ _ p5 rfl
     have x7 := st7 _ _ x5 rfl
     refine Rst.only 5 _ 16 rfl (by kernel_rfl) rfl (by kernel_rfl) (by kernel_rfl) ⟨v', w7, Reg.app rfl rfl rfl hrun, ⟨p7, x7⟩, ?_⟩
     obtain ⟨g', cap', rfl⟩ : ∃ g' cap', v' = .slice (some ⟨g', 0, none⟩) (cc.length + 1) cap' := by
       obtain ⟨_, ⟨_, h⟩ | ⟨g, cap, cur, e, _⟩⟩ := hown
       · omega
       · exact ⟨g, cap, e⟩
     refine Rst.last _ rfl (by kernel_rfl) rfl (by kernel_rfl) (by kernel_rfl) ⟨_, Reg.st1 rfl rfl rfl (by simp [World.cell?, p7]; rfl) (by simp [World.frozen?, p7]) (.inr ⟨_, _, _, rfl⟩) (Tryz.sizeOf81 _), ?_⟩
     refine Rst.done (by kernel_rfl) ?_
     have hown8 : OwnN w7 w.heap.size (.slice (some ⟨g', 0, none⟩) (cc.length + 1) cap') (cc ++ [nn]) := by
       unfold OwnN
       rw [List.length_append, List.map_append]
       have := hown
       rw [hnd.out] at this
       exact this
     have s7 : w5.heap.size ≤ w7.heap.size := Nat.le_trans (by simp) hgrow.size
     have hne8 : ∀ k, k ≠ w.heap.size + 1 → (w7.setCell ⟨w.heap.size + 1, 0, none⟩ (.slice (some ⟨g', 0, none⟩) (cc.length + 1) cap')).heap[k]? = w7.heap[k]? := fun k hk => Below.heap_setCell _ _ _ _ hk
     have nb8 : NB w (w.heap.size + 1) (cc ++ [nn]) (w7.setCell ⟨w.heap.size + 1, 0, none⟩ (.slice (some ⟨g', 0, none⟩) (cc.length + 1) cap')) := ⟨_, by simp [World.setCell, Array.getElem?_modify, p7], hown8.same fun g o hg hs => by
       refine (hne8 g ?_).trans hg
       rintro rfl
       rw [p7] at hg
       cases hg
       cases hs⟩
     have bel7 : Below w.heap.size A1.drew w7 := ((hb5.mono (show w.heap.size ≤ A1.heap.size by omega)).trans (a6.mono (by omega))).trans (o6.bel hgrow (by simp; omega))
     obtain ⟨f1, f2, f3, f4, f5, f6⟩ := FIN.out _ (cc ++ [nn]) nb8 (fun k hk hk' hs => by
       rw [hne8 k hk]
       obtain ⟨o, ho⟩ : ∃ o, A1.heap[k]? = some o := ⟨_, Array.getElem?_eq_getElem hk'⟩
       rw [ho] at hs
       rw [ho]
       exact st7 k o ((hb5.block k hk').trans ho) hs) (fun k hk => (hne8 k (by omega)).trans (bel7.block k hk)) (by simp [World.setCell]; omega) ⟨bel7.os, bel7.tape, bel7.output⟩ HTK2.out
     exact ⟨f1, rfl, f2, f3, f4, f5, f6⟩
   · have e1 : (d1.k == 2) = false := by simp [hk1]
     rw [if_neg hk1, List.append_nil] at HTK2
     clear hk1
     gi_wp2
     obtain ⟨f1, f2, f3, f4, f5, f6⟩ := FIN.out A1 cc ⟨v, K1.out, KOW.out⟩ (fun _ _ _ _ => rfl) (fun _ _ => rfl) (Nat.le_refl _) ⟨rfl, rfl, rfl⟩ HTK2.out
     exact ⟨f1, rfl, f2, f3, f4, f5, f6⟩
 rintro e W' ⟨hv, h⟩
 refine ⟨hv, ?_⟩
 rcases h with ⟨j1, j2, j3, j4⟩ | ⟨_, _, h⟩
 · rw [List.take_length] at j1
   refine .inl ⟨j2, fun r' => ?_⟩
   have k1 : NB w (w.heap.size + 1) (E.vnk (E.pre t t)) (W'.putObj (X3.heap.size + 1) (.loop r')) := j1.put (by omega) j2 rfl
   have k3 := (World.putObj_heap_other (w := W') (o := .loop r') (show X3.heap.size ≠ X3.heap.size + 1 by omega)).trans j3
   have k4 := j4.trans (below_put (n := w.heap.size) W' (.loop r') (show w.heap.size ≤ X3.heap.size + 1 by omega))
   generalize W'.putObj (X3.heap.size + 1) (.loop r') = W9 at *
   obtain ⟨v, jb, jo⟩ := k1
   have c1 : W9.cell? ⟨w.heap.size + 1, 0, none⟩ = some v := by simp [World.cell?, jb]
   have hvl : (E.vnk (E.pre t t)).length ≤ 1000000 := Nat.le_trans (E.vnk_le _) hps
   have z9 := k4.size
   have hsort := sort_row W9 w.heap.size v _ jo hvl
   clear hvl j1
   gi_wp2_with fail
   refine ⟨trivial, (callsIn_wide.2 hsort).mono ?_⟩
   rintro e W10 ⟨rfl, ho10, hg10⟩
   have jb10 := jo.stay hg10 jb rfl
   have k10 := jo.stay hg10 k3 rfl
   have b10 := k4.trans (jo.bel hg10 z9)
   have c10 : W10.cell? ⟨w.heap.size + 1, 0, none⟩ = some v := by simp [World.cell?, jb10]
   have hcomp := compact_row W10 w.heap.size v _ ho10 (by rw [merge_len]; exact Nat.le_trans (E.vnk_le _) hps)
   have z10 := b10.size
   clear hsort c1 hg10
   gi_wp2_with fail
   refine ⟨trivial, (callsIn_wide.2 hcomp).mono ?_⟩
   rintro e W11 ⟨u, rfl, ho11, hg11⟩
   have k11 := ho10.stay hg11 k10 rfl
   have b11 := b10.trans (ho10.bel hg11 z10)
   have HO := hide ho11
   clear hcomp c10 ho11 hg11
   gi_wp2
   refine ⟨by simp, .inl ⟨_, _, rfl, run_takeDeferred k11, ?_⟩⟩
   exact ⟨_, results_tmp rfl _ _ _, u, rfl, HO.out.put _ k11 rfl, b11.trans (below_put _ _ (by omega))⟩
 · exact h.elim
theorem names_any (t : T) (d : ND) (w : World) (hT : TR w (fun _ => True) t d.v) (hps : (E.pre t t).length ≤ 1000000) (hnl : ∀ p ∈ E.pre t t, p.1.name.length ≤ 100000) :
  Calls Tryz.prog 35 #[d.v] w fun e W' => ∃ u, e = .returned u ∧ OwnN W' w.heap.size u (E.nmL t) ∧ Below w.heap.size w W' := callsIn_wide.1 (names_in t d w hT hps hnl)
end Go.Proofs.YtgngaldoemopjaaGreatDoor
