/- Joined: Plo. -/
import Derived.Test.YtgngaldoemopjaaGreatDoorFPlm
import Derived.Test.YtgngaldoemopjaaGreatDoorFCt7
namespace Go.Proofs.YtgngaldoemopjaaGreatDoor
open Go.RowKit Go.Shelf
attribute [local go_sem] Oper.semAt_some
open E (T)
namespace PA
def Okt (t : T) : Prop := ∀ p ∈ E.pre t t, (p.1.kids.length : Int) = E.kidsOf p.1.kind ∧ p.1.set.length ≤ 200
def ct (t : T) : Nat := E.cnt (E.pre t t)
theorem okt_self {t : T} (h : Okt t) : (t.kids.length : Int) = E.kidsOf t.kind ∧ t.set.length ≤ 200 := h (t, t) (by rw [pre_self]; exact List.mem_cons_self)
theorem okt_kid {t : T} (h : Okt t) {x : T} (hx : x ∈ t.kids) : Okt x := fun p hp => h p (by rw [pre_self]; exact List.mem_cons_of_mem _ (List.mem_flatMap.2 ⟨x, hx, hp⟩))
theorem cnt_app (a b : List (T × T)) : E.cnt (a ++ b) = E.cnt a + E.cnt b := by simp [E.cnt, List.countP_append]
theorem cnt_flat : ∀ ks : List T, E.cnt (ks.flatMap fun x => E.pre x x) = (ks.map ct).sum
 | [] => rfl
 | x :: xs => by rw [List.flatMap_cons, cnt_app, cnt_flat xs, List.map_cons, List.sum_cons]; rfl
theorem ct_eq (t : T) : ct t = (if t.kind = 1 then 1 else 0) + (t.kids.map ct).sum := by
 unfold ct
 rw [pre_self, show ((t, t) :: t.kids.flatMap fun x => E.pre x x) = [(t, t)] ++ t.kids.flatMap fun x => E.pre x x from rfl, cnt_app, cnt_flat]
 congr 1
 by_cases h : t.kind = 1 <;> simp [E.cnt, h]
theorem ct_mk (k a : Int) (s : List U.S.R) (n : List UInt8) (ks : List T) : ct (.mk k a s n ks) = (if k = 1 then 1 else 0) + (ks.map ct).sum := ct_eq _
theorem kids0 {t : T} (h : Okt t) (h0 : E.kidsOf t.kind = 0) : t.kids = [] := by
 have := (okt_self h).1
 rw [h0] at this
 exact List.eq_nil_of_length_eq_zero (by omega)
theorem kids1 {t : T} (h : Okt t) (h0 : E.kidsOf t.kind = 1) : ∃ x, t.kids = [x] := by
 have := (okt_self h).1
 rw [h0] at this
 exact List.length_eq_one_iff.1 (by omega)
theorem kids2 {t : T} (h : Okt t) (h0 : E.kidsOf t.kind = 2) : ∃ x y, t.kids = [x, y] := by
 have := (okt_self h).1
 rw [h0] at this
 match hk : t.kids with
 | [x, y] => exact ⟨x, y, rfl⟩
 | [] => rw [hk] at this; simp at this
 | [x] => rw [hk] at this; simp at this
 | x :: y :: z :: l => rw [hk] at this; simp at this; omega
theorem gd_add : ∀ (n : Nat) (t : T), SizeOf.sizeOf t < n → Okt t → Gd (add t) (ct t)
 | 0, _, h, _ => absurd h (Nat.not_lt_zero _)
 | n + 1, .mk k a s nm ks, h, ho => by
   have ih : ∀ x ∈ ks, Gd (add x) (ct x) := fun x hx => gd_add n x (by
     have := List.sizeOf_lt_of_mem hx
     simp at h
     omega) (okt_kid ho hx)
   rw [add_mk, ct_mk]
   by_cases h2 : k = 4 ∨ k = 5
   · obtain ⟨x, y, rfl⟩ : ∃ x y, ks = [x, y] := kids2 ho (by simp [T.kind, E.kidsOf, h2])
     have hk1 : k ≠ 1 := by omega
     have := gd_step (ih x (by simp)) (ih y (by simp)) k s
     simp only [cN, if_neg hk1, if_pos h2] at this
     simpa [hk1] using this
   · by_cases h1 : k = 6 ∨ k = 7 ∨ k = 8
     · obtain ⟨x, rfl⟩ : ∃ x, ks = [x] := kids1 ho (by simp [T.kind, E.kidsOf, h2, h1])
       have hk1 : k ≠ 1 := by omega
       have := gd_step (ih x (by simp)) gd_nil k s
       simp only [cN, if_neg hk1, if_neg h2, if_pos h1] at this
       simpa [hk1] using this
     · obtain rfl : ks = [] := kids0 ho (by simp [T.kind, E.kidsOf, h2, h1])
       have := gd_step gd_nil gd_nil k s
       simp only [cN, if_neg h2, if_neg h1] at this
       simp only [List.map_nil, List.getD_nil, List.sum_nil, Nat.add_zero]
       by_cases hk1 : k = 1
       · rw [if_pos hk1] at this ⊢; exact this
       · rw [if_neg hk1] at this ⊢; exact this
end PA
theorem gd_tree {t : T} (h : PA.Okt t) : PA.Gd (PA.add t) (PA.ct t) := PA.gd_add _ t (Nat.lt_succ_self _) h
def AddOK (t : T) : Prop := ∀ (w0 w : World) (A : Nat) (x : PA.En) (st : List PA.Pl) (d : ND), 0 < w0.heap.size → Deb w0 → TR w0 (fun _ => True) t d.v → Below w0.heap.size w0 w → AutoAt w w0.heap.size A x st → (∀ p ∈ st, p.2 < 2 ^ st.length) → st.length + PA.ct t ≤ 60 →
 Calls Tryz.prog 37 #[.pointer (some ⟨A, 0, none⟩), d.v] w fun e W => e = .returned (encE (PA.add t st).2) ∧ AutoAt W w0.heap.size A x (PA.add t st).1 ∧ PF w0.heap.size A w W
theorem PF.bel {n A : Nat} {w0 w W : World} (h : PF n A w W) (hb : Below n w0 w) : Below n w0 W := hb.trans h.below
theorem AutoAt.join {w : World} {B A : Nat} {x : PA.En} {st : List PA.Pl} (h : AutoAt w B A x st) (f t : Nat) (hf : f < 2 ^ st.length) (ht : t < 2 ^ st.length) (hq : ∀ p ∈ st, p.2 < 2 ^ st.length) (hlen : st.length ≤ 60) (h0 : 0 < B) (hd : Deb w) :
   Calls Tryz.prog 64 #[.pointer (some ⟨A, 0, none⟩), .int .u64 (f : Int), .int .u64 (t : Int)] w fun e W => (∃ u, e = .returned u) ∧ AutoAt W B A x (PA.join f t st) ∧ PF B A w W := by
 obtain ⟨v, qs, rfl, h⟩ := h
 simp only [List.length_map] at hf ht hq hlen
 refine (join_any h f t hf (PA.up ht (by omega)) (fun q hq' => PA.up (hq q.1 (List.mem_map_of_mem hq')) (by omega)) (by omega) h0 hd).mono ?_
 rintro e W ⟨he, ha, hp⟩
 exact ⟨he, ⟨v, _, qsS_join f t qs, ha⟩, hp⟩
set_option maxRecDepth 100000 in
set_option maxHeartbeats 2000000 in
theorem addRow_of {t : T} (hok : PA.Okt t) (h : AddOK t) (w0 w : World) (A : Nat) (x : PA.En) (st : List PA.Pl) (d : ND) (h0 : 0 < w0.heap.size) (hdeb : Deb w0) (hT : TR w0 (fun _ => True) t d.v) (hb : Below w0.heap.size w0 w) (hA : AutoAt w w0.heap.size A x st) (hq : ∀ p ∈ st, p.2 < 2 ^ st.length) (hlen : st.length + PA.ct t ≤ 60) :
   Calls Tryz.prog 67 #[.pointer (some ⟨A, 0, none⟩), d.v] w fun e W => e = .returned (encE (PA.row (PA.add t) st).2) ∧ AutoAt W w0.heap.size A x (PA.row (PA.add t) st).1 ∧ PF w0.heap.size A w W := by
 have hg := gd_tree hok
 have hB : w0.heap.size ≤ w.heap.size := hb.size
 have hAl := hA.lt
 have b1 := al1 w (.cells #[.int .i64 d.k, .int .i64 d.a, .slice d.sp d.sl d.sc, .string d.n, .slice d.kp d.kl d.kc] 25)
 have n1 := heap_alloc_new w (.cells #[.int .i64 d.k, .int .i64 d.a, .slice d.sp d.sl d.sc, .string d.n, .slice d.kp d.kl d.kc] 25)
 have s1 : (w.alloc (.cells #[.int .i64 d.k, .int .i64 d.a, .slice d.sp d.sl d.sc, .string d.n, .slice d.kp d.kl d.kc] 25)).heap.size = w.heap.size + 1 := by simp
 obtain ⟨X1, hX1⟩ : ∃ X1, w.alloc (.cells #[.int .i64 d.k, .int .i64 d.a, .slice d.sp d.sl d.sc, .string d.n, .slice d.kp d.kl d.kc] 25) = X1 := ⟨_, rfl⟩
 rw [hX1] at b1 n1 s1
 have b2 := al1 X1 (.cells #[.int .u64 0, .int .u64 0, .bool false] 87)
 have n2 := heap_alloc_new X1 (.cells #[.int .u64 0, .int .u64 0, .bool false] 87)
 have s2 : (X1.alloc (.cells #[.int .u64 0, .int .u64 0, .bool false] 87)).heap.size = w.heap.size + 2 := by simp [s1]
 obtain ⟨X2, hX2⟩ : ∃ X2, X1.alloc (.cells #[.int .u64 0, .int .u64 0, .bool false] 87) = X2 := ⟨_, rfl⟩
 rw [hX2] at b2 n2 s2
 rw [s1] at n2
 have n1' := (b2.block _ (by omega)).trans n1
 have bX := nx b1 b2
 have hcall := h w0 X2 A x st d h0 hdeb hT (hb.trans (bX.mono hB)) (hA.later bX) hq hlen
 have hgl := hg.len st
 have hgf := hg.f st
 have hgll := hg.l st
 have hgfl := hg.fl st hq
 have hrow : PA.row (PA.add t) st = (PA.join (PA.add t st).2.l (PA.add t st).2.f (PA.add t st).1, (PA.add t st).2) := rfl
 rw [hrow]
 generalize PA.add t st = r at *
 obtain ⟨st1, ef, el, en⟩ := r
 dsimp only at *
 obtain ⟨q0, q1, q2, q3, q4⟩ := cells_five n1'
 unfold ND.v encE at hcall
 unfold ND.v encE
 clear hrow hT h hg
 dsimp only at hcall ⊢
 go_enter Tryz.func67, Tryz.ntmps67
 go_wp2_with fail
 refine hcall.mono ?_
 rintro e W1 ⟨rfl, ha1, hp1⟩
 have hp2 : PF w0.heap.size A w W1 := (PF.of bX hB).trans hp1
 have r1 : W1.heap[w.heap.size + 1]? = some (.cells #[.int .u64 0, .int .u64 0, .bool false] 87) := hp1.at_ n2 (by omega) (by decide)
 have z1 : w.heap.size + 2 ≤ W1.heap.size := by have := hp1.size; omega
 clear hcall q0 q1 q2 q3 q4 hX1 hX2 n1 n1' n2 b1 b2 bX hp1 hA
 have a3 := al1 W1 (.cells #[.int .u64 (ef : Int), .int .u64 (el : Int), .bool en] 87)
 have n3 := heap_alloc_new W1 (.cells #[.int .u64 (ef : Int), .int .u64 (el : Int), .bool en] 87)
 have s3 : (W1.alloc (.cells #[.int .u64 (ef : Int), .int .u64 (el : Int), .bool en] 87)).heap.size = W1.heap.size + 1 := by simp
 have hp3 := hp2.trans (PF.of a3 (by omega))
 have hJ := (ha1.later a3).join el ef (by rw [hgl]; exact hgll) (by rw [hgl]; exact hgf) (by rw [hgl]; exact hgfl) (by omega) h0 (hdeb.later (hp3.bel hb))
 have r3 := (a3.block _ (by omega)).trans r1
 clear r1 a3 hp2
 go_wp2_with fail
 refine hJ.mono ?_
 rintro e W4 ⟨⟨u, rfl⟩, ha4, hp4⟩
 have hp5 := hp3.trans hp4
 have r4 := hp4.at_ r3 (by omega) (by decide)
 have n4 := hp4.at_ n3 (by omega) (by decide)
 have z4 : W1.heap.size + 1 ≤ W4.heap.size := by have := hp4.size; omega
 clear hJ r3 n3 hp3 hp4 s3
 have q0 : W4.cell? ⟨W1.heap.size, 0, none⟩ = some (.int .u64 (ef : Int)) := by simp [World.cell?, n4]
 have q1 : W4.cell? ⟨W1.heap.size, 1, none⟩ = some (.int .u64 (el : Int)) := by simp [World.cell?, n4]
 have q2 : W4.cell? ⟨W1.heap.size, 2, none⟩ = some (.bool en) := by simp [World.cell?, n4]
 have p0 : W4.cell? ⟨w.heap.size + 1, 0, none⟩ = some (.int .u64 0) := by simp [World.cell?, r4]
 have p1 : W4.cell? ⟨w.heap.size + 1, 1, none⟩ = some (.int .u64 0) := by simp [World.cell?, r4]
 have p2 : W4.cell? ⟨w.heap.size + 1, 2, none⟩ = some (.bool false) := by simp [World.cell?, r4]
 have f0 : W4.frozen? ⟨w.heap.size + 1, 0, none⟩ = false := by simp [World.frozen?, r4]
 have f1 : W4.frozen? ⟨w.heap.size + 1, 1, none⟩ = false := by simp [World.frozen?, r4]
 have f2 : W4.frozen? ⟨w.heap.size + 1, 2, none⟩ = false := by simp [World.frozen?, r4]
 have HA := hide (ha4.put3 (b := w.heap.size + 1) (y := ⟨ef, el, en⟩) (z := zE) r4)
 have HP := hide (hp5.put3 (b := w.heap.size + 1) (y := ⟨ef, el, en⟩) hB (by omega))
 clear ha4 hp5 n4 r4 ha1
 go_wp2
 exact bodyPost_ret (v := .agg #[.int .u64 (ef : Int), .int .u64 (el : Int), .bool en]) (by simp [results, Tryz.results67, go_sem, p0, p1, p2]) rfl ⟨rfl, HA.out, HP.out⟩
theorem plain2 {x y : T} (k a : Int) (s : List U.S.R) (nm : List UInt8) (st : List PA.Pl) : PA.add (.mk k a s nm [x, y]) st = PA.step k s (PA.add x) (PA.add y) st := by rw [PA.add_mk]; rfl
theorem plain1 {x : T} (k a : Int) (s : List U.S.R) (nm : List UInt8) (st : List PA.Pl) : PA.add (.mk k a s nm [x]) st = PA.step k s (PA.add x) PA.nil st := by rw [PA.add_mk]; rfl
theorem plain0 (k a : Int) (s : List U.S.R) (nm : List UInt8) (st : List PA.Pl) : PA.add (.mk k a s nm []) st = PA.step k s PA.nil PA.nil st := by rw [PA.add_mk]; rfl
structure Ent (w0 w X : World) (A : Nat) (x : PA.En) (st : List PA.Pl) (c0 c1 c2 c3 c4 : Value) : Prop where
 pos : 0 < w0.heap.size
 deb : Deb w0
 bel : Below w0.heap.size w0 w
 belX : Below w.heap.size w X
 au : AutoAt X w0.heap.size A x st
 al : A < w.heap.size
 box : X.heap[w.heap.size]? = some (.cells #[c0, c1, c2, c3, c4] 25)
 res : X.heap[w.heap.size + 1]? = some (.cells #[.int .u64 0, .int .u64 0, .bool false] 87)
 size : X.heap.size = w.heap.size + 2
theorem ent_of {w0 w : World} {A : Nat} {x : PA.En} {st : List PA.Pl} (h0 : 0 < w0.heap.size) (hd : Deb w0) (hb : Below w0.heap.size w0 w) (hA : AutoAt w w0.heap.size A x st) (c0 c1 c2 c3 c4 : Value) : Ent w0 w ((w.alloc (.cells #[c0, c1, c2, c3, c4] 25)).alloc (.cells #[.int .u64 0, .int .u64 0, .bool false] 87)) A x st c0 c1 c2 c3 c4 := by
 have b1 := al1 w (.cells #[c0, c1, c2, c3, c4] 25)
 have b2 := al1 (w.alloc (.cells #[c0, c1, c2, c3, c4] 25)) (.cells #[.int .u64 0, .int .u64 0, .bool false] 87)
 have n2 := heap_alloc_new (w.alloc (.cells #[c0, c1, c2, c3, c4] 25)) (.cells #[.int .u64 0, .int .u64 0, .bool false] 87)
 have s1 : (w.alloc (.cells #[c0, c1, c2, c3, c4] 25)).heap.size = w.heap.size + 1 := by simp
 rw [s1] at n2
 exact ⟨h0, hd, hb, nx b1 b2, hA.later (nx b1 b2), hA.lt.2, (b2.block _ (by omega)).trans (heap_alloc_new _ _), n2, by simp⟩
theorem cells_three {W : World} {b : Nat} {u0 u1 u2 : Value} (h : W.heap[b]? = some (.cells #[u0, u1, u2] 87)) : W.cell? ⟨b, 0, none⟩ = some u0 ∧ W.cell? ⟨b, 1, none⟩ = some u1 ∧ W.cell? ⟨b, 2, none⟩ = some u2 ∧ W.frozen? ⟨b, 0, none⟩ = false ∧ W.frozen? ⟨b, 1, none⟩ = false ∧ W.frozen? ⟨b, 2, none⟩ = false := by
 simp [World.cell?, World.frozen?, h]
theorem ret49 {w0 w W : World} {A : Nat} {x y : PA.En} {st : List PA.Pl} {tm : Array Value} {Q : Ending → World → Prop} (hp : PF w0.heap.size A w W) (hB : w0.heap.size ≤ w.heap.size) (hr : W.heap[w.heap.size + 1]? = some (.cells #[.int .u64 0, .int .u64 0, .bool false] 87)) (ha : AutoAt W w0.heap.size A x st)
   (ht : tm.getD 4 undef = .pointer (some ⟨w.heap.size + 1, 0, none⟩)) (hQ : ∀ W', AutoAt W' w0.heap.size A x st → PF w0.heap.size A w W' → Q (.returned (encE y)) W') :
   bodyPost Tryz.prog Tryz.f37 Q .ret { tmps := tm, defers := [] } (put3 W (w.heap.size + 1) y) := by
 have hbx := put3_box (x := y) hr
 refine bodyPost_ret (v := encE y) ?_ rfl (hQ _ (ha.put3 (z := zE) hr) (hp.put3 hB (by omega)))
 have p0 : (put3 W (w.heap.size + 1) y).cell? ⟨w.heap.size + 1, 0, none⟩ = some (.int .u64 (y.f : Int)) := by simp [World.cell?, hbx]
 have p1 : (put3 W (w.heap.size + 1) y).cell? ⟨w.heap.size + 1, 1, none⟩ = some (.int .u64 (y.l : Int)) := by simp [World.cell?, hbx]
 have p2 : (put3 W (w.heap.size + 1) y).cell? ⟨w.heap.size + 1, 2, none⟩ = some (.bool y.n) := by simp [World.cell?, hbx]
 generalize put3 W (w.heap.size + 1) y = W' at *
 rw [res_cell (p := 4) (ty := 87) rfl, ht]
 simp [asAddr, loadVar, Sem.run_bind, Result.andThen, go_sem, p0, p1, p2, encE]
set_option maxRecDepth 100000 in
set_option maxHeartbeats 2000000 in
theorem add_set {w0 w : World} {A : Nat} {x : PA.En} {st : List PA.Pl} (a : Int) (s : List U.S.R) (hs : s.length ≤ 200) (nm : ByteArray) (sp kp : Option Addr) (sc kl kc : Nat) (hr : U.RdR w0 sp s) (h0 : 0 < w0.heap.size) (hd : Deb w0) (hb : Below w0.heap.size w0 w) (hA : AutoAt w w0.heap.size A x st) (hlen : st.length + 1 ≤ 60) :
   Calls Tryz.prog 37 #[.pointer (some ⟨A, 0, none⟩), .agg #[.int .i64 1, .int .i64 a, .slice sp s.length sc, .string nm, .slice kp kl kc]] w fun e W => e = .returned (encE ⟨2 ^ st.length, 2 ^ st.length, false⟩) ∧ AutoAt W w0.heap.size A x (st ++ [(s, 0)]) ∧ PF w0.heap.size A w W := by
 have he := ent_of h0 hd hb hA (.int .i64 1) (.int .i64 a) (.slice sp s.length sc) (.string nm) (.slice kp kl kc)
 obtain ⟨X, hX⟩ : ∃ X, (w.alloc (.cells #[.int .i64 1, .int .i64 a, .slice sp s.length sc, .string nm, .slice kp kl kc] 25)).alloc (.cells #[.int .u64 0, .int .u64 0, .bool false] 87) = X := ⟨_, rfl⟩
 rw [hX] at he
 obtain ⟨q0, q1, q2, q3, q4⟩ := cells_five he.box
 have hcall : Calls Tryz.prog 63 #[.pointer (some ⟨A, 0, none⟩), .slice sp s.length sc] X fun e W => e = .returned (encE ⟨2 ^ st.length, 2 ^ st.length, false⟩) ∧ AutoAt W w0.heap.size A x (st ++ [(s, 0)]) ∧ PF w0.heap.size A X W := by
   obtain ⟨v, qs, rfl, ha⟩ := he.au
   simp only [List.length_map] at hlen ⊢
   refine (addPlace_any ha sp sc s (hr.later (hb.trans (he.belX.mono hb.size))) (by omega) (by omega)).mono ?_
   rintro e W ⟨rfl, ⟨v', vs, h1⟩, h2⟩
   exact ⟨rfl, ⟨v', _, by simp, h1⟩, h2⟩
 have HE := hide he
 have hB : w0.heap.size ≤ w.heap.size := hb.size
 unfold encE at hcall
 unfold encE
 dsimp only at hcall ⊢
 generalize 2 ^ st.length = it at *
 clear he hr hA hs hd h0
 go_enter Tryz.func37, Tryz.ntmps37
 go_wp2_with fail
 refine hcall.mono ?_
 rintro e W1 ⟨rfl, ha1, hp1⟩
 have HP := hide ((PF.of HE.out.belX hB).trans hp1)
 have HA := hide ha1
 have HR := hide (hp1.at_ HE.out.res (by have := HE.out.al; omega) (by decide))
 clear hcall ha1 hp1 q0 q1 q2 q3 q4 hX
 obtain ⟨p0, p1, p2, f0, f1, f2⟩ := cells_three HR.out
 go_wp2
 exact ret49 (y := ⟨it, it, false⟩) HP.out hB HR.out HA.out rfl fun W' h1 h2 => ⟨rfl, h1, h2⟩
set_option maxRecDepth 100000 in
set_option maxHeartbeats 2000000 in
theorem add_none {w0 w : World} {A : Nat} {x : PA.En} {st : List PA.Pl} (k a : Int) (hk : k ≠ 1 ∧ k ≠ 4 ∧ k ≠ 5 ∧ k ≠ 6 ∧ k ≠ 7 ∧ k ≠ 8) (nm : ByteArray) (sp kp : Option Addr) (sl sc kl kc : Nat) (h0 : 0 < w0.heap.size) (hd : Deb w0) (hb : Below w0.heap.size w0 w) (hA : AutoAt w w0.heap.size A x st) :
   Calls Tryz.prog 37 #[.pointer (some ⟨A, 0, none⟩), .agg #[.int .i64 k, .int .i64 a, .slice sp sl sc, .string nm, .slice kp kl kc]] w fun e W => e = .returned (encE PA.none) ∧ AutoAt W w0.heap.size A x st ∧ PF w0.heap.size A w W := by
 have he := ent_of h0 hd hb hA (.int .i64 k) (.int .i64 a) (.slice sp sl sc) (.string nm) (.slice kp kl kc)
 obtain ⟨X, hX⟩ : ∃ X, (w.alloc (.cells #[.int .i64 k, .int .i64 a, .slice sp sl sc, .string nm, .slice kp kl kc] 25)).alloc (.cells #[.int .u64 0, .int .u64 0, .bool false] 87) = X := ⟨_, rfl⟩
 rw [hX] at he
 obtain ⟨q0, q1, q2, q3, q4⟩ := cells_five he.box
 have hcall := empty_any X
 have HE := hide he
 have hB : w0.heap.size ≤ w.heap.size := hb.size
 have t1 : (k == 1) = false := by simp [hk.1]
 have t4 : (k == 4) = false := by simp [hk.2.1]
 have t5 : (k == 5) = false := by simp [hk.2.2.1]
 have t6 : (k == 6) = false := by simp [hk.2.2.2.1]
 have t7 : (k == 7) = false := by simp [hk.2.2.2.2.1]
 have t8 : (k == 8) = false := by simp [hk.2.2.2.2.2]
 unfold encE at hcall
 unfold encE
 clear he hA hd h0 hk
 go_enter Tryz.func37, Tryz.ntmps37
 go_wp2_with fail
 refine hcall.mono ?_
 rintro e W1 ⟨rfl, hb1⟩
 have HP := hide (PF.of (A := A) (nx HE.out.belX hb1) hB)
 have HA := hide (HE.out.au.later hb1)
 have HR := hide ((hb1.block _ (by have := HE.out.size; omega)).trans HE.out.res)
 clear hcall hb1 q0 q1 q2 q3 q4 hX
 obtain ⟨p0, p1, p2, f0, f1, f2⟩ := cells_three HR.out
 go_wp2
 exact ret49 (y := PA.none) HP.out hB HR.out HA.out rfl fun W' h1 h2 => ⟨rfl, h1, h2⟩
set_option maxRecDepth 100000 in
set_option maxHeartbeats 2000000 in
theorem add_plus {w0 w : World} {A kb koff : Nat} {x e1 : PA.En} {st st1 : List PA.Pl} {d0 : ND} (a : Int) (nm : ByteArray) (sp : Option Addr) (sl sc kl kc : Nat) (hk0 : Cells5 w0 kb koff d0.v) (hkl : 1 ≤ kl) (h0 : 0 < w0.heap.size) (hd : Deb w0) (hb : Below w0.heap.size w0 w) (hA : AutoAt w w0.heap.size A x st)
   (hc1 : ∀ w, Below w0.heap.size w0 w → AutoAt w w0.heap.size A x st → Calls Tryz.prog 67 #[.pointer (some ⟨A, 0, none⟩), d0.v] w fun e W => e = .returned (encE e1) ∧ AutoAt W w0.heap.size A x st1 ∧ PF w0.heap.size A w W) :
   Calls Tryz.prog 37 #[.pointer (some ⟨A, 0, none⟩), .agg #[.int .i64 7, .int .i64 a, .slice sp sl sc, .string nm, .slice (some ⟨kb, koff, none⟩) kl kc]] w fun e W => e = .returned (encE e1) ∧ AutoAt W w0.heap.size A x st1 ∧ PF w0.heap.size A w W := by
 have he := ent_of h0 hd hb hA (.int .i64 7) (.int .i64 a) (.slice sp sl sc) (.string nm) (.slice (some ⟨kb, koff, none⟩) kl kc)
 obtain ⟨X, hX⟩ : ∃ X, (w.alloc (.cells #[.int .i64 7, .int .i64 a, .slice sp sl sc, .string nm, .slice (some ⟨kb, koff, none⟩) kl kc] 25)).alloc (.cells #[.int .u64 0, .int .u64 0, .bool false] 87) = X := ⟨_, rfl⟩
 rw [hX] at he
 obtain ⟨q0, q1, q2, q3, q4⟩ := cells_five he.box
 have hcall := hc1 X (hb.trans (he.belX.mono hb.size)) he.au
 have HE := hide he
 have hB : w0.heap.size ≤ w.heap.size := hb.size
 have hkb := cells5_lt hk0
 have hkX := cells5_same hk0 ((he.belX.block kb (by omega)).trans (hb.block kb hkb))
 obtain ⟨y0, y1, y2, y3, y4, ev, g0, g1, g2, g3, g4⟩ := hkX
 unfold ND.v at ev hcall
 simp only [Value.agg.injEq, Array.mk.injEq, List.cons.injEq, and_true] at ev
 obtain ⟨rfl, rfl, rfl, rfl, rfl⟩ := ev
 have es := elemSizeN
 unfold encE at hcall
 unfold encE
 clear he hA hd h0 hk0 hc1
 go_enter Tryz.func37, Tryz.ntmps37
 go_wp2_with fail
 refine hcall.mono ?_
 rintro e W1 ⟨rfl, ha1, hp1⟩
 have hp2 := (PF.of HE.out.belX hB).trans hp1
 have r2 := hp1.at_ HE.out.res (by have := HE.out.al; omega) (by decide)
 clear hcall hp1 q0 q1 q2 q3 q4 g0 g1 g2 g3 g4 hX
 have HP := hide hp2
 have HA := hide ha1
 have HR := hide r2
 clear hp2 ha1 r2
 obtain ⟨p0, p1, p2, f0, f1, f2⟩ := cells_three HR.out
 go_wp2
 exact ret49 (y := e1) HP.out hB HR.out HA.out rfl fun W' h1 h2 => ⟨rfl, h1, h2⟩
set_option maxRecDepth 100000 in
set_option maxHeartbeats 2000000 in
theorem add_star {w0 w : World} {A kb koff : Nat} {x e1 : PA.En} {st st1 : List PA.Pl} {d0 : ND} (a : Int) (nm : ByteArray) (sp : Option Addr) (sl sc kl kc : Nat) (hk0 : Cells5 w0 kb koff d0.v) (hkl : 1 ≤ kl) (h0 : 0 < w0.heap.size) (hd : Deb w0) (hb : Below w0.heap.size w0 w) (hA : AutoAt w w0.heap.size A x st) (hel : e1.f < 2 ^ 64 ∧ e1.l < 2 ^ 64)
   (hc1 : ∀ w, Below w0.heap.size w0 w → AutoAt w w0.heap.size A x st → Calls Tryz.prog 67 #[.pointer (some ⟨A, 0, none⟩), d0.v] w fun e W => e = .returned (encE e1) ∧ AutoAt W w0.heap.size A x st1 ∧ PF w0.heap.size A w W) :
   Calls Tryz.prog 37 #[.pointer (some ⟨A, 0, none⟩), .agg #[.int .i64 6, .int .i64 a, .slice sp sl sc, .string nm, .slice (some ⟨kb, koff, none⟩) kl kc]] w fun e W => e = .returned (encE (PA.or e1 PA.none)) ∧ AutoAt W w0.heap.size A x st1 ∧ PF w0.heap.size A w W := by
 have he := ent_of h0 hd hb hA (.int .i64 6) (.int .i64 a) (.slice sp sl sc) (.string nm) (.slice (some ⟨kb, koff, none⟩) kl kc)
 obtain ⟨X, hX⟩ : ∃ X, (w.alloc (.cells #[.int .i64 6, .int .i64 a, .slice sp sl sc, .string nm, .slice (some ⟨kb, koff, none⟩) kl kc] 25)).alloc (.cells #[.int .u64 0, .int .u64 0, .bool false] 87) = X := ⟨_, rfl⟩
 rw [hX] at he
 obtain ⟨q0, q1, q2, q3, q4⟩ := cells_five he.box
 have hcall := hc1 X (hb.trans (he.belX.mono hb.size)) he.au
 have HE := hide he
 have hB : w0.heap.size ≤ w.heap.size := hb.size
 have hkb := cells5_lt hk0
 have hkX := cells5_same hk0 ((he.belX.block kb (by omega)).trans (hb.block kb hkb))
 obtain ⟨y0, y1, y2, y3, y4, ev, g0, g1, g2, g3, g4⟩ := hkX
 unfold ND.v at ev hcall
 simp only [Value.agg.injEq, Array.mk.injEq, List.cons.injEq, and_true] at ev
 obtain ⟨rfl, rfl, rfl, rfl, rfl⟩ := ev
 have es := elemSizeN
 have hem := fun W => empty_any W
 have hor := fun W => or_any e1 PA.none hel.1 hel.2 (by decide) (by decide) W
 unfold encE at hcall hem hor
 unfold encE
 clear he hA hd h0 hk0 hc1
 go_enter Tryz.func37, Tryz.ntmps37
 go_wp2_with fail
 refine hcall.mono ?_
 rintro e W1 ⟨rfl, ha1, hp1⟩
 have hp2 := (PF.of HE.out.belX hB).trans hp1
 have r2 := hp1.at_ HE.out.res (by have := HE.out.al; omega) (by decide)
 clear hcall hp1 q0 q1 q2 q3 q4 g0 g1 g2 g3 g4 hX
 go_wp2_with fail
 refine (hem _).mono ?_
 rintro e W2 ⟨rfl, hb2⟩
 have hp3 := hp2.trans (PF.of hb2 (by have := hp2.size; omega))
 have ha2 := ha1.later hb2
 have r3 := (hb2.block _ (Array.getElem?_eq_some_iff.1 r2).1).trans r2
 clear hp2 ha1 r2 hb2 hem
 go_wp2_with fail
 refine (hor _).mono ?_
 rintro e W3 ⟨rfl, hb3⟩
 have HP := hide (hp3.trans (PF.of hb3 (by have := hp3.size; omega)))
 have HA := hide (ha2.later hb3)
 have HR := hide ((hb3.block _ (Array.getElem?_eq_some_iff.1 r3).1).trans r3)
 clear hp3 ha2 r3 hb3 hor
 obtain ⟨p0, p1, p2, f0, f1, f2⟩ := cells_three HR.out
 go_wp2
 exact ret49 (y := PA.or e1 PA.none) HP.out hB HR.out HA.out rfl fun W' h1 h2 => ⟨rfl, h1, h2⟩
set_option maxRecDepth 100000 in
set_option maxHeartbeats 2000000 in
theorem add_opt {w0 w : World} {A kb koff : Nat} {x e1 : PA.En} {st st1 : List PA.Pl} {d0 : ND} (a : Int) (nm : ByteArray) (sp : Option Addr) (sl sc kl kc : Nat) (hk0 : Cells5 w0 kb koff d0.v) (hkl : 1 ≤ kl) (h0 : 0 < w0.heap.size) (hd : Deb w0) (hb : Below w0.heap.size w0 w) (hA : AutoAt w w0.heap.size A x st) (hel : e1.f < 2 ^ 64 ∧ e1.l < 2 ^ 64)
   (hc1 : ∀ w, Below w0.heap.size w0 w → AutoAt w w0.heap.size A x st → Calls Tryz.prog 37 #[.pointer (some ⟨A, 0, none⟩), d0.v] w fun e W => e = .returned (encE e1) ∧ AutoAt W w0.heap.size A x st1 ∧ PF w0.heap.size A w W) :
   Calls Tryz.prog 37 #[.pointer (some ⟨A, 0, none⟩), .agg #[.int .i64 8, .int .i64 a, .slice sp sl sc, .string nm, .slice (some ⟨kb, koff, none⟩) kl kc]] w fun e W => e = .returned (encE (PA.or e1 PA.none)) ∧ AutoAt W w0.heap.size A x st1 ∧ PF w0.heap.size A w W := by
 have he := ent_of h0 hd hb hA (.int .i64 8) (.int .i64 a) (.slice sp sl sc) (.string nm) (.slice (some ⟨kb, koff, none⟩) kl kc)
 obtain ⟨X, hX⟩ : ∃ X, (w.alloc (.cells #[.int .i64 8, .int .i64 a, .slice sp sl sc, .string nm, .slice (some ⟨kb, koff, none⟩) kl kc] 25)).alloc (.cells #[.int .u64 0, .int .u64 0, .bool false] 87) = X := ⟨_, rfl⟩
 rw [hX] at he
 obtain ⟨q0, q1, q2, q3, q4⟩ := cells_five he.box
 have hcall := hc1 X (hb.trans (he.belX.mono hb.size)) he.au
 have HE := hide he
 have hB : w0.heap.size ≤ w.heap.size := hb.size
 have hkb := cells5_lt hk0
 have hkX := cells5_same hk0 ((he.belX.block kb (by omega)).trans (hb.block kb hkb))
 obtain ⟨y0, y1, y2, y3, y4, ev, g0, g1, g2, g3, g4⟩ := hkX
 unfold ND.v at ev hcall
 simp only [Value.agg.injEq, Array.mk.injEq, List.cons.injEq, and_true] at ev
 obtain ⟨rfl, rfl, rfl, rfl, rfl⟩ := ev
 have es := elemSizeN
 have hem := fun W => empty_any W
 have hor := fun W => or_any e1 PA.none hel.1 hel.2 (by decide) (by decide) W
 unfold encE at hcall hem hor
 unfold encE
 clear he hA hd h0 hk0 hc1
 go_enter Tryz.func37, Tryz.ntmps37
 go_wp2_with fail
 refine hcall.mono ?_
 rintro e W1 ⟨rfl, ha1, hp1⟩
 have hp2 := (PF.of HE.out.belX hB).trans hp1
 have r2 := hp1.at_ HE.out.res (by have := HE.out.al; omega) (by decide)
 clear hcall hp1 q0 q1 q2 q3 q4 g0 g1 g2 g3 g4 hX
 go_wp2_with fail
 refine (hem _).mono ?_
 rintro e W2 ⟨rfl, hb2⟩
 have hp3 := hp2.trans (PF.of hb2 (by have := hp2.size; omega))
 have ha2 := ha1.later hb2
 have r3 := (hb2.block _ (Array.getElem?_eq_some_iff.1 r2).1).trans r2
 clear hp2 ha1 r2 hb2 hem
 go_wp2_with fail
 refine (hor _).mono ?_
 rintro e W3 ⟨rfl, hb3⟩
 have HP := hide (hp3.trans (PF.of hb3 (by have := hp3.size; omega)))
 have HA := hide (ha2.later hb3)
 have HR := hide ((hb3.block _ (Array.getElem?_eq_some_iff.1 r3).1).trans r3)
 clear hp3 ha2 r3 hb3 hor
 obtain ⟨p0, p1, p2, f0, f1, f2⟩ := cells_three HR.out
 go_wp2
 exact ret49 (y := PA.or e1 PA.none) HP.out hB HR.out HA.out rfl fun W' h1 h2 => ⟨rfl, h1, h2⟩
end Go.Proofs.YtgngaldoemopjaaGreatDoor
namespace Go.Proofs.YtgngaldoemopjaaGreatDoor
open Go.RowKit Go.Shelf
attribute [local go_sem] Oper.semAt_some
open E (T)
set_option maxRecDepth 100000 in
set_option maxHeartbeats 2000000 in
theorem add_alt {w0 w : World} {A kb koff : Nat} {x e1 e2 : PA.En} {st st1 st2 : List PA.Pl} {d0 d1 : ND} (a : Int) (nm : ByteArray) (sp : Option Addr) (sl sc kl kc : Nat) (hk0 : Cells5 w0 kb koff d0.v) (hk1 : Cells5 w0 kb (koff + 5) d1.v) (hkl : 2 ≤ kl) (h0 : 0 < w0.heap.size) (hd : Deb w0) (hb : Below w0.heap.size w0 w) (hA : AutoAt w w0.heap.size A x st) (he1 : e1.f < 2 ^ 64 ∧ e1.l < 2 ^ 64) (he2 : e2.f < 2 ^ 64 ∧ e2.l < 2 ^ 64)
   (hc1 : ∀ w, Below w0.heap.size w0 w → AutoAt w w0.heap.size A x st → Calls Tryz.prog 37 #[.pointer (some ⟨A, 0, none⟩), d0.v] w fun e W => e = .returned (encE e1) ∧ AutoAt W w0.heap.size A x st1 ∧ PF w0.heap.size A w W)
   (hc2 : ∀ w, Below w0.heap.size w0 w → AutoAt w w0.heap.size A x st1 → Calls Tryz.prog 37 #[.pointer (some ⟨A, 0, none⟩), d1.v] w fun e W => e = .returned (encE e2) ∧ AutoAt W w0.heap.size A x st2 ∧ PF w0.heap.size A w W) :
   Calls Tryz.prog 37 #[.pointer (some ⟨A, 0, none⟩), .agg #[.int .i64 5, .int .i64 a, .slice sp sl sc, .string nm, .slice (some ⟨kb, koff, none⟩) kl kc]] w fun e W => e = .returned (encE (PA.or e1 e2)) ∧ AutoAt W w0.heap.size A x st2 ∧ PF w0.heap.size A w W := by
 have he := ent_of h0 hd hb hA (.int .i64 5) (.int .i64 a) (.slice sp sl sc) (.string nm) (.slice (some ⟨kb, koff, none⟩) kl kc)
 obtain ⟨X, hX⟩ : ∃ X, (w.alloc (.cells #[.int .i64 5, .int .i64 a, .slice sp sl sc, .string nm, .slice (some ⟨kb, koff, none⟩) kl kc] 25)).alloc (.cells #[.int .u64 0, .int .u64 0, .bool false] 87) = X := ⟨_, rfl⟩
 rw [hX] at he
 obtain ⟨q0, q1, q2, q3, q4⟩ := cells_five he.box
 have HE := hide he
 have hB : w0.heap.size ≤ w.heap.size := hb.size
 have hkb := cells5_lt hk0
 have hk0X := hide (cells5_same hk0 ((he.belX.block kb (by omega)).trans (hb.block kb hkb)))
 have hk1X := hide (cells5_same hk1 ((he.belX.block kb (by omega)).trans (hb.block kb hkb)))
 have hbX : Below w0.heap.size w0 X := hb.trans (he.belX.mono hB)
 have hor := fun W => or_any e1 e2 he1.1 he1.2 he2.1 he2.2 W
 clear he hA hd h0 hk0 hk1
 go_enter Tryz.func37, Tryz.ntmps37
 go_wp2
 refine regA _ _ rfl rfl rfl HE.out.box hkl hkb hk0X.out hk1X.out HE.out.au (fun w' ha hp => hc1 w' (hp.bel hbX) ha) (fun w' ha hp => hc2 w' (hp.bel hbX) ha) ?_
 intro bx bz W hne hxl hzl hx hz ha hp
 simp only [Reg.ov, Act.put, List.setIfInBounds_toArray, List.set_cons_succ, List.set_cons_zero]
 have hp2 := (PF.of HE.out.belX hB).trans hp
 have r2 := hp.at_ HE.out.res (by have := HE.out.al; omega) (by decide)
 obtain ⟨x0, x1, x2, _, _, _⟩ := cells_three hx
 obtain ⟨z0, z1, z2, _, _, _⟩ := cells_three hz
 unfold encE at hor
 unfold encE
 clear hp hx hz q0 q1 q2 q3 q4 hX hk0X hk1X hc1 hc2 hbX
 go_wp2_with fail
 refine (hor _).mono ?_
 rintro e W3 ⟨rfl, hb3⟩
 have HP := hide (hp2.trans (PF.of hb3 (by have := hp2.size; omega)))
 have HA := hide (ha.later hb3)
 have HR := hide ((hb3.block _ (Array.getElem?_eq_some_iff.1 r2).1).trans r2)
 clear hp2 ha r2 hb3 hor x0 x1 x2 z0 z1 z2
 obtain ⟨p0, p1, p2, f0, f1, f2⟩ := cells_three HR.out
 go_wp2
 exact ret49 (y := PA.or e1 e2) HP.out hB HR.out HA.out rfl fun W' h1 h2 => ⟨rfl, h1, h2⟩
set_option maxRecDepth 100000 in
set_option maxHeartbeats 2000000 in
theorem add_cat {w0 w : World} {A kb koff : Nat} {x e1 e2 : PA.En} {st st1 st2 : List PA.Pl} {d0 d1 : ND} (a : Int) (nm : ByteArray) (sp : Option Addr) (sl sc kl kc : Nat) (hk0 : Cells5 w0 kb koff d0.v) (hk1 : Cells5 w0 kb (koff + 5) d1.v) (hkl : 2 ≤ kl) (h0 : 0 < w0.heap.size) (hd : Deb w0) (hb : Below w0.heap.size w0 w) (hA : AutoAt w w0.heap.size A x st) (hj1 : e1.l < 2 ^ st2.length) (hj2 : e2.f < 2 ^ st2.length) (hj3 : ∀ p ∈ st2, p.2 < 2 ^ st2.length) (hj4 : st2.length ≤ 60) (he1 : e1.f < 2 ^ 64 ∧ e1.l < 2 ^ 64) (he2 : e2.f < 2 ^ 64 ∧ e2.l < 2 ^ 64)
   (hc1 : ∀ w, Below w0.heap.size w0 w → AutoAt w w0.heap.size A x st → Calls Tryz.prog 37 #[.pointer (some ⟨A, 0, none⟩), d0.v] w fun e W => e = .returned (encE e1) ∧ AutoAt W w0.heap.size A x st1 ∧ PF w0.heap.size A w W)
   (hc2 : ∀ w, Below w0.heap.size w0 w → AutoAt w w0.heap.size A x st1 → Calls Tryz.prog 37 #[.pointer (some ⟨A, 0, none⟩), d1.v] w fun e W => e = .returned (encE e2) ∧ AutoAt W w0.heap.size A x st2 ∧ PF w0.heap.size A w W) :
   Calls Tryz.prog 37 #[.pointer (some ⟨A, 0, none⟩), .agg #[.int .i64 4, .int .i64 a, .slice sp sl sc, .string nm, .slice (some ⟨kb, koff, none⟩) kl kc]] w fun e W => e = .returned (encE (PA.ahead e1 e2)) ∧ AutoAt W w0.heap.size A x (PA.join e1.l e2.f st2) ∧ PF w0.heap.size A w W := by
 have he := ent_of h0 hd hb hA (.int .i64 4) (.int .i64 a) (.slice sp sl sc) (.string nm) (.slice (some ⟨kb, koff, none⟩) kl kc)
 obtain ⟨X, hX⟩ : ∃ X, (w.alloc (.cells #[.int .i64 4, .int .i64 a, .slice sp sl sc, .string nm, .slice (some ⟨kb, koff, none⟩) kl kc] 25)).alloc (.cells #[.int .u64 0, .int .u64 0, .bool false] 87) = X := ⟨_, rfl⟩
 rw [hX] at he
 obtain ⟨q0, q1, q2, q3, q4⟩ := cells_five he.box
 have HE := hide he
 have hB : w0.heap.size ≤ w.heap.size := hb.size
 have hkb := cells5_lt hk0
 have hk0X := hide (cells5_same hk0 ((he.belX.block kb (by omega)).trans (hb.block kb hkb)))
 have hk1X := hide (cells5_same hk1 ((he.belX.block kb (by omega)).trans (hb.block kb hkb)))
 have hbX : Below w0.heap.size w0 X := hb.trans (he.belX.mono hB)
 have hor := fun W => ahead_any e1 e2 he1.1 he1.2 he2.1 he2.2 W
 clear he hA hk0 hk1
 go_enter Tryz.func37, Tryz.ntmps37
 go_wp2
 refine regC _ _ rfl rfl rfl HE.out.box hkl hkb hk0X.out hk1X.out HE.out.au (fun w' ha hp => hc1 w' (hp.bel hbX) ha) (fun w' ha hp => hc2 w' (hp.bel hbX) ha) ?_
 intro bx bz W hne hxl hzl hx hz ha hp
 simp only [Reg.ov, Act.put, List.setIfInBounds_toArray, List.set_cons_succ, List.set_cons_zero]
 have hp2 := (PF.of HE.out.belX hB).trans hp
 have r2 := hp.at_ HE.out.res (by have := HE.out.al; omega) (by decide)
 have hJ := ha.join e1.l e2.f hj1 hj2 hj3 hj4 h0 (hd.later (hp2.bel hb))
 have hxA : bx ≠ A := by have := HE.out.al; have := HE.out.size; omega
 have hzA : bz ≠ A := by have := HE.out.al; have := HE.out.size; omega
 obtain ⟨x0, x1, x2, _, _, _⟩ := cells_three hx
 obtain ⟨z0, z1, z2, _, _, _⟩ := cells_three hz
 unfold encE at hor
 unfold encE
 clear hp q0 q1 q2 q3 q4 hX hk0X hk1X hc1 hc2 hbX h0 hd
 go_wp2_with fail
 refine hJ.mono ?_
 rintro e W2 ⟨⟨u, rfl⟩, ha, hpj⟩
 have hp2 := hp2.trans hpj
 have r2 := hpj.at_ r2 (by have := HE.out.al; omega) (by decide)
 have hx := EB.pf hx hpj hxA
 have hz := EB.pf hz hpj hzA
 clear hJ hpj x0 x1 x2 z0 z1 z2
 obtain ⟨x0, x1, x2, _, _, _⟩ := cells_three hx
 obtain ⟨z0, z1, z2, _, _, _⟩ := cells_three hz
 clear hx hz
 go_wp2_with fail
 refine (hor _).mono ?_
 rintro e W3 ⟨rfl, hb3⟩
 have HP := hide (hp2.trans (PF.of hb3 (by have := hp2.size; omega)))
 have HA := hide (ha.later hb3)
 have HR := hide ((hb3.block _ (Array.getElem?_eq_some_iff.1 r2).1).trans r2)
 clear hp2 ha r2 hb3 hor x0 x1 x2 z0 z1 z2
 obtain ⟨p0, p1, p2, f0, f1, f2⟩ := cells_three HR.out
 go_wp2
 exact ret49 (y := PA.ahead e1 e2) HP.out hB HR.out HA.out rfl fun W' h1 h2 => ⟨rfl, h1, h2⟩
theorem add_n : ∀ (n : Nat) (t : T), SizeOf.sizeOf t < n → PA.Okt t → AddOK t
 | 0, _, h, _ => absurd h (Nat.not_lt_zero _)
 | n + 1, .mk k a s nm ks, h, ho => by
   have ih : ∀ x ∈ ks, AddOK x := fun x hx => add_n n x (by
     have := List.sizeOf_lt_of_mem hx
     simp at h
     omega) (PA.okt_kid ho hx)
   have ho2 : ∀ x ∈ ks, PA.Okt x := fun x hx => PA.okt_kid ho hx
   intro w0 w A x st d h0 hd hT hb hA hq hlen
   rw [TR] at hT
   obtain ⟨sp, sc, kp, kc, e1, hr, hk1, hkr⟩ := hT
   rw [e1]
   clear e1 d
   have hsl := (PA.okt_self ho).2
   by_cases h2 : k = 4 ∨ k = 5
   · obtain ⟨y, z, rfl⟩ : ∃ x y, ks = [x, y] := PA.kids2 ho (by simp [T.kind, E.kidsOf, h2])
     obtain ⟨b, off, v0, rfl, ht0, hc0⟩ := kr_get _ 0 hkr 0 (by simp)
     obtain ⟨b', off', v1, e', ht1, hc1⟩ := kr_get _ 0 hkr 1 (by simp)
     cases e'
     obtain ⟨d0, rfl, _⟩ := ht0.nd
     obtain ⟨d1, rfl, _⟩ := ht1.nd
     simp only [Nat.zero_add, Nat.zero_mul, Nat.add_zero, Nat.one_mul, List.getElem_cons_zero, List.getElem_cons_succ] at hc0 hc1 ht0 ht1
     have hg1 := gd_tree (ho2 y (by simp))
     have hg2 := gd_tree (ho2 z (by simp))
     rw [PA.ct_mk] at hlen
     have hk1' : k ≠ 1 := by omega
     simp only [if_neg hk1', List.map_cons, List.map_nil, List.sum_cons, List.sum_nil] at hlen
     have l1 := hg1.len st
     have l2 := hg2.len (PA.add y st).1
     have q1 := hg1.fl st hq
     rw [← l1] at q1
     have q2 := hg2.fl (PA.add y st).1 q1
     rw [← l2] at q2
     have f1 := hg1.f st
     have g1 := hg1.l st
     have f2 := hg2.f (PA.add y st).1
     have g2 := hg2.l (PA.add y st).1
     have c1 : ∀ w', Below w0.heap.size w0 w' → AutoAt w' w0.heap.size A x st → Calls Tryz.prog 37 #[.pointer (some ⟨A, 0, none⟩), d0.v] w' fun e W => e = .returned (encE (PA.add y st).2) ∧ AutoAt W w0.heap.size A x (PA.add y st).1 ∧ PF w0.heap.size A w' W := fun w' hb' ha' => ih y (by simp) w0 w' A x st d0 h0 hd ht0 hb' ha' hq (by omega)
     have c2 : ∀ w', Below w0.heap.size w0 w' → AutoAt w' w0.heap.size A x (PA.add y st).1 → Calls Tryz.prog 37 #[.pointer (some ⟨A, 0, none⟩), d1.v] w' fun e W => e = .returned (encE (PA.add z (PA.add y st).1).2) ∧ AutoAt W w0.heap.size A x (PA.add z (PA.add y st).1).1 ∧ PF w0.heap.size A w' W := fun w' hb' ha' => ih z (by simp) w0 w' A x _ d1 h0 hd ht1 hb' ha' q1 (by omega)
     rw [plain2]
     rcases h2 with rfl | rfl
     · exact add_cat a _ sp _ sc _ kc hc0 hc1 (by simp) h0 hd hb hA (PA.up g1 (by omega)) (by rw [← l2] at f2; exact f2) q2 (by omega) ⟨PA.up f1 (by omega), PA.up g1 (by omega)⟩ ⟨PA.up f2 (by omega), PA.up g2 (by omega)⟩ c1 c2
     · exact add_alt a _ sp _ sc _ kc hc0 hc1 (by simp) h0 hd hb hA ⟨PA.up f1 (by omega), PA.up g1 (by omega)⟩ ⟨PA.up f2 (by omega), PA.up g2 (by omega)⟩ c1 c2
   · by_cases h1 : k = 6 ∨ k = 7 ∨ k = 8
     · obtain ⟨y, rfl⟩ : ∃ x, ks = [x] := PA.kids1 ho (by simp [T.kind, E.kidsOf, h2, h1])
       obtain ⟨b, off, v0, rfl, ht0, hc0⟩ := kr_get _ 0 hkr 0 (by simp)
       obtain ⟨d0, rfl, _⟩ := ht0.nd
       simp only [Nat.zero_mul, Nat.add_zero, List.getElem_cons_zero] at hc0 ht0
       have hg1 := gd_tree (ho2 y (by simp))
       rw [PA.ct_mk] at hlen
       have hk1' : k ≠ 1 := by omega
       simp only [if_neg hk1', List.map_cons, List.map_nil, List.sum_cons, List.sum_nil] at hlen
       have f1 := hg1.f st
       have g1 := hg1.l st
       have hel : (PA.add y st).2.f < 2 ^ 64 ∧ (PA.add y st).2.l < 2 ^ 64 := ⟨PA.up f1 (by omega), PA.up g1 (by omega)⟩
       rw [plain1]
       rcases h1 with rfl | rfl | rfl
       · exact add_star a _ sp _ sc _ kc hc0 (by simp) h0 hd hb hA hel fun w' hb' ha' => addRow_of (ho2 y (by simp)) (ih y (by simp)) w0 w' A x st d0 h0 hd ht0 hb' ha' hq (by omega)
       · exact add_plus a _ sp _ sc _ kc hc0 (by simp) h0 hd hb hA fun w' hb' ha' => addRow_of (ho2 y (by simp)) (ih y (by simp)) w0 w' A x st d0 h0 hd ht0 hb' ha' hq (by omega)
       · exact add_opt a _ sp _ sc _ kc hc0 (by simp) h0 hd hb hA hel fun w' hb' ha' => ih y (by simp) w0 w' A x st d0 h0 hd ht0 hb' ha' hq (by omega)
     · obtain rfl : ks = [] := PA.kids0 ho (by simp [T.kind, E.kidsOf, h2, h1])
       rw [plain0]
       by_cases hk : k = 1
       · subst hk
         rw [PA.ct_mk] at hlen
         simp only [if_true, List.map_nil, List.sum_nil] at hlen
         exact add_set a s hsl _ sp kp sc _ kc hr h0 hd hb hA (by omega)
       · have he : PA.step k s PA.nil PA.nil st = (st, PA.none) := by
           unfold PA.step
           rw [if_neg hk, if_neg (by omega), if_neg (by omega), if_neg (by omega), if_neg (by omega), if_neg (by omega)]
         rw [he]
         exact add_none k a ⟨hk, by omega, by omega, by omega, by omega, by omega⟩ _ sp kp _ sc _ kc h0 hd hb hA
theorem add_any {t : T} (h : PA.Okt t) : AddOK t := add_n _ t (Nat.lt_succ_self _) h
end Go.Proofs.YtgngaldoemopjaaGreatDoor
namespace Go.Proofs.YtgngaldoemopjaaGreatDoor
open Go.RowKit Go.Shelf
attribute [local go_sem] Oper.semAt_some
open E (T)
namespace PA
def auto (t : T) : Au := ⟨(add t []).1, (add t []).2⟩
def Acc (t : T) : Prop := E.IsP t ∧ E.nmL t = []
theorem okt_of {t : T} (h : E.IsP t) : Okt t := fun p hp => by
 obtain ⟨h1, h2⟩ := h.2 p hp
 refine ⟨h1, ?_⟩
 rcases h2 with ⟨_, _, h3, _⟩ | ⟨_, h3, _⟩ | ⟨_, _, h3, _⟩
 · exact h3
 · rw [h3]; decide
 · rw [h3]; decide
theorem names_of {t : T} (h : E.IsP t) : ∀ p ∈ E.pre t t, p.1.name.length ≤ 100000 := fun p hp => by
 obtain ⟨h1, h2⟩ := h.2 p hp
 rcases h2 with ⟨_, h3, _⟩ | ⟨_, _, h3⟩ | ⟨_, _, _, h3⟩
 · rw [h3]; decide
 · unfold E.nameP at h3
   simp only [Bool.and_eq_true, decide_eq_true_eq] at h3
   omega
 · rw [h3]; decide
theorem auto_len {t : T} (h : Okt t) : (auto t).pl.length = ct t := by
 have := (gd_tree h).len []
 simpa [auto] using this
theorem auto_fl {t : T} (h : Okt t) : ∀ p ∈ (auto t).pl, p.2 < 2 ^ (auto t).pl.length := by
 have := (gd_tree h).fl [] (fun p hp => by cases hp)
 rw [auto_len h]
 simpa [auto] using this
theorem auto_f {t : T} (h : Okt t) : (auto t).w.f < 2 ^ (auto t).pl.length ∧ (auto t).w.l < 2 ^ (auto t).pl.length := by
 have h1 := (gd_tree h).f []
 have h2 := (gd_tree h).l []
 rw [auto_len h]
 simp only [List.length_nil, Nat.zero_add] at h1 h2
 exact ⟨h1, h2⟩
end PA
theorem deb_pos {w : World} (h : Deb w) : 0 < w.heap.size := by
 have := h 0 (by decide)
 exact U.cell_lt this
theorem AutoW.ends {w : World} {B A : Nat} {v : Value} {qs : List (PA.Pl × Value)} {x : PA.En} (h : AutoW w B A v qs x) (y : PA.En) :
   AutoW (((w.setCell ⟨A, 1, none⟩ (.int .u64 (y.f : Int))).setCell ⟨A, 2, none⟩ (.int .u64 (y.l : Int))).setCell ⟨A, 3, none⟩ (.bool y.n)) B A v qs y := by
 have hne : ∀ k, k ≠ A → (((w.setCell ⟨A, 1, none⟩ (.int .u64 (y.f : Int))).setCell ⟨A, 2, none⟩ (.int .u64 (y.l : Int))).setCell ⟨A, 3, none⟩ (.bool y.n)).heap[k]? = w.heap[k]? := fun k hk => (Below.heap_setCell _ _ _ _ hk).trans ((Below.heap_setCell _ _ _ _ hk).trans (Below.heap_setCell _ _ _ _ hk))
 refine ⟨(U.set_at _ (U.set_at _ (U.set_at _ h.box))).trans rfl, own_same h.own fun k hk => hne k ?_, fun q hq => own_same (h.set q hq) fun k hk => hne k ?_, h.le⟩
 · rintro rfl
   obtain ⟨_, _, cur, hcur⟩ := own_type h.own hk
   rw [h.box] at hcur; cases hcur
 · rintro rfl
   obtain ⟨_, _, cur, hcur⟩ := own_type (h.set q hq) hk
   rw [h.box] at hcur; cases hcur
theorem OwnN.rd' {w : World} {B : Nat} {v : Value} {ss : List (List UInt8)} (h : OwnN w B v ss) : ∃ ao c, v = .slice ao ss.length c := by
 obtain ⟨_, ⟨rfl, h0⟩ | ⟨g, cap, _, rfl, _⟩⟩ := h
 · exact ⟨none, 0, by rw [h0]⟩
 · exact ⟨_, _, rfl⟩
def AnsW (t : T) (w : World) (e : Ending) (W : World) : Prop :=
 Below w.heap.size w W ∧ ((¬ PA.Acc t ∧ e = .returned (.tuple #[.pointer none, .int .i64 70])) ∨ (PA.Acc t ∧ 60 < PA.ct t ∧ e = .returned (.tuple #[.pointer none, .int .i64 72])) ∨
   (PA.Acc t ∧ PA.ct t ≤ 60 ∧ ∃ A, e = .returned (.tuple #[.pointer (some ⟨A, 0, none⟩), .int .i64 0]) ∧ AutoAt W w.heap.size A (PA.auto t).w (PA.auto t).pl))
set_option maxRecDepth 100000 in
set_option maxHeartbeats 4000000 in
theorem new_any (t : T) (d : ND) (w : World) (htab : Tabs w) (hdeb : Deb w) (hT : TR w (fun _ => True) t d.v) (hps : (E.pre t t).length ≤ 1000000) (hnb : ∀ p ∈ E.pre t t, E.NodeB p.1) : Calls Tryz.prog 22 #[d.v] w (AnsW t w) := by
 have b1 := al1 w (.cells #[.int .i64 d.k, .int .i64 d.a, .slice d.sp d.sl d.sc, .string d.n, .slice d.kp d.kl d.kc] 25)
 have n1 := heap_alloc_new w (.cells #[.int .i64 d.k, .int .i64 d.a, .slice d.sp d.sl d.sc, .string d.n, .slice d.kp d.kl d.kc] 25)
 have s1 : (w.alloc (.cells #[.int .i64 d.k, .int .i64 d.a, .slice d.sp d.sl d.sc, .string d.n, .slice d.kp d.kl d.kc] 25)).heap.size = w.heap.size + 1 := by simp
 obtain ⟨X, hX⟩ : ∃ X, w.alloc (.cells #[.int .i64 d.k, .int .i64 d.a, .slice d.sp d.sl d.sc, .string d.n, .slice d.kp d.kl d.kc] 25) = X := ⟨_, rfl⟩
 rw [hX] at b1 n1 s1
 obtain ⟨q0, q1, q2, q3, q4⟩ := cells_five n1
 have hlat : ∀ W, Below w.heap.size w W → TR W (fun _ => True) t d.v := fun W hb => TR.later (fun k hk => hb.block k hk) _ hT
 have hIs := is_any7 t d X (htab.later b1) (hlat X b1) hps hnb
 have HLAT := hide hlat
 have HT := hide hT
 have HD := hide hdeb
 unfold ND.v at hIs ⊢
 clear hlat hT hdeb
 go_enter Tryz.func22, Tryz.ntmps22
 go_wp2_with fail
 refine hIs.mono ?_
 rintro e W1 ⟨⟨b, rfl, hbI⟩, hb1⟩
 have B1 := nx b1 hb1
 have m1 := (hb1.block _ (by omega)).trans n1
 have z1 : w.heap.size + 1 ≤ W1.heap.size := by have := hb1.size; omega
 have HBI := hide hbI
 clear hIs hb1 hbI q0 q1 q2 q3 q4 n1 hX b1 s1
 cases b with
 | false =>
   have hno : ¬ PA.Acc t := fun h => by have := HBI.out.2 h.1; cases this
   have HNO := hide hno
   clear hno
   go_wp2
   exact bodyPost_ret (v := .tuple #[.pointer none, .int .i64 70]) (by simp [results, Tryz.results22, go_sem]) rfl ⟨B1, .inl ⟨HNO.out, rfl⟩⟩
 | true =>
   have hI := HBI.out.1 rfl
   have hN := names_any t d W1 (HLAT.out W1 B1) hps (PA.names_of hI)
   obtain ⟨q0, q1, q2, q3, q4⟩ := cells_five m1
   have HI := hide hI
   unfold ND.v at hN
   clear hI HBI
   go_wp2_with fail
   refine hN.mono ?_
   rintro e W2 ⟨u, rfl, ho, hb2⟩
   obtain ⟨ao, cN, rfl⟩ := ho.rd'
   have B2 := nx B1 hb2
   have m2 := (hb2.block _ (Array.getElem?_eq_some_iff.1 m1).1).trans m1
   have z2 : w.heap.size + 1 ≤ W2.heap.size := Nat.le_trans z1 hb2.size
   clear hN ho hb2 m1 z1 q0 q1 q2 q3 q4 B1
   by_cases hl : 0 < (E.nmL t).length
   · have HNO : Hid (¬ PA.Acc t) := hide (fun h => by rw [h.2] at hl; simp at hl)
     go_wp2
     exact bodyPost_ret (v := .tuple #[.pointer none, .int .i64 70]) (by simp [results, Tryz.results22, go_sem]) rfl ⟨B2, .inl ⟨HNO.out, rfl⟩⟩
   · have HAC : Hid (PA.Acc t) := hide ⟨HI.out, List.eq_nil_of_length_eq_zero (by omega)⟩
     have hP := places_any t d W2 (HLAT.out W2 B2) hps
     obtain ⟨q0, q1, q2, q3, q4⟩ := cells_five m2
     have hle : E.cnt (E.pre t t) ≤ 1000000 := Nat.le_trans (E.cnt_le _) hps
     have HCT : Hid (PA.ct t = E.cnt (E.pre t t)) := rfl
     generalize E.cnt (E.pre t t) = ct at *
     unfold ND.v at hP
     go_wp2_with fail
     refine hP.mono ?_
     rintro e W3 ⟨rfl, hb3⟩
     have B3 := nx B2 hb3
     have m3 := (hb3.block _ (Array.getElem?_eq_some_iff.1 m2).1).trans m2
     have z3 : w.heap.size + 1 ≤ W3.heap.size := Nat.le_trans z2 hb3.size
     clear hP hb3 m2 z2 q0 q1 q2 q3 q4 B2 hl
     by_cases hc : 60 < ct
     · have HC := hide hc
       go_wp2
       exact bodyPost_ret (v := .tuple #[.pointer none, .int .i64 72]) (by simp [results, Tryz.results22, go_sem]) rfl ⟨B3, .inr (.inl ⟨HAC.out, by rw [HCT.out]; exact HC.out, rfl⟩)⟩
     · have HC : Hid (PA.ct t ≤ 60) := hide (by rw [HCT.out]; omega)
       have a4 := al1 W3 (.cells #[.slice none 0 0, .int .u64 0, .int .u64 0, .bool false] 89)
       have n4 := heap_alloc_new W3 (.cells #[.slice none 0 0, .int .u64 0, .int .u64 0, .bool false] 89)
       have m4 := (a4.block _ (by omega)).trans m3
       have hA : AutoAt (W3.alloc (.cells #[.slice none 0 0, .int .u64 0, .int .u64 0, .bool false] 89)) w.heap.size W3.heap.size zE [] := ⟨.slice none 0 0, [], rfl, n4, World.ownsRow_nil _ _ _ _, fun q hq => (by cases hq), by omega⟩
       have B4 := nx B3 a4
       obtain ⟨X4, hX4⟩ : ∃ X4, W3.alloc (.cells #[.slice none 0 0, .int .u64 0, .int .u64 0, .bool false] 89) = X4 := ⟨_, rfl⟩
       rw [hX4] at hA m4 B4
       have hcall := add_any (PA.okt_of HI.out) w X4 W3.heap.size zE [] d (deb_pos HD.out) HD.out HT.out B4 hA (fun p hp => by cases hp) (by simpa using HC.out)
       obtain ⟨q0, q1, q2, q3, q4⟩ := cells_five m4
       have HAU : Hid (PA.add t [] = ((PA.auto t).pl, (PA.auto t).w)) := rfl
       rw [HAU.out] at hcall
       have HB4 := hide B4
       have HAA := hide hA
       obtain ⟨⟨pl, f, l, nu⟩, hau⟩ : ∃ au, PA.auto t = au := ⟨_, rfl⟩
       rw [hau] at hcall
       have HAE := hide hau
       clear hau
       unfold ND.v encE at hcall
       dsimp only at hcall
       clear m3 B3 a4 n4 hA B4
       go_wp2_with fail
       refine hcall.mono ?_
       rintro e W5 ⟨rfl, hA5, hp5⟩
       obtain ⟨v, qs, hqs, hA5⟩ := hA5
       have hbx := hA5.box
       have c1 : W5.cell? ⟨W3.heap.size, 1, none⟩ = some (.int .u64 (zE.f : Int)) := by simp [World.cell?, hbx]
       have c2 : W5.cell? ⟨W3.heap.size, 2, none⟩ = some (.int .u64 (zE.l : Int)) := by simp [World.cell?, hbx]
       have c3 : W5.cell? ⟨W3.heap.size, 3, none⟩ = some (.bool zE.n) := by simp [World.cell?, hbx]
       have f1 : W5.frozen? ⟨W3.heap.size, 1, none⟩ = false := by simp [World.frozen?, hbx]
       have f2 : W5.frozen? ⟨W3.heap.size, 2, none⟩ = false := by simp [World.frozen?, hbx]
       have f3 : W5.frozen? ⟨W3.heap.size, 3, none⟩ = false := by simp [World.frozen?, hbx]
       have HF := hide (hA5.ends ⟨f, l, nu⟩)
       have HQ := hide hqs
       have B5 := hp5.bel HB4.out
       have HB5 := hide (bl_set (bl_set (bl_set B5 (p := ⟨W3.heap.size, 1, none⟩) (by show w.heap.size ≤ W3.heap.size; omega) (.int .u64 (f : Int))) (p := ⟨W3.heap.size, 2, none⟩) (by show w.heap.size ≤ W3.heap.size; omega) (.int .u64 (l : Int))) (p := ⟨W3.heap.size, 3, none⟩) (by show w.heap.size ≤ W3.heap.size; omega) (.bool nu))
       clear hcall hA5 hp5 hbx hqs q0 q1 q2 q3 q4 hX4 m4 B5
       go_wp2
       exact bodyPost_ret (v := .tuple #[.pointer (some ⟨W3.heap.size, 0, none⟩), .int .i64 0]) (by simp [results, Tryz.results22, go_sem]) rfl ⟨HB5.out, .inr (.inr ⟨HAC.out, HC.out, W3.heap.size, rfl, by rw [HAE.out]; exact ⟨v, qs, HQ.out, HF.out⟩⟩)⟩
end Go.Proofs.YtgngaldoemopjaaGreatDoor
