/- add, addRow. -/
import Derived.Test.YtemanednddhfaaaGreatDoorPlm
import Derived.Test.YtemanednddhfaaaGreatDoorCt7
namespace Go.Proofs.YtemanednddhfaaaGreatDoor
open Go.RowKit Go.Shelf
attribute [local go_sem] Oper.semAt_some
open E (T)
namespace PA
/-- Its nodes have as many kids as their kinds ask, its sets are not too long. -/
def Okt (t : T) : Prop := ∀ p ∈ E.pre t t, (p.1.kids.length : Int) = E.kidsOf p.1.kind ∧ p.1.set.length ≤ 200
def ct (t : T) : Nat := E.cnt (E.pre t t)
theorem okt_self {t : T} (h : Okt t) : (t.kids.length : Int) = E.kidsOf t.kind ∧ t.set.length ≤ 200 := h (t, t) (by rw [pre_self]; exact List.mem_cons_self)
theorem okt_kid {t : T} (h : Okt t) {x : T} (hx : x ∈ t.kids) : Okt x := fun p hp => h p (by rw [pre_self]; exact List.mem_cons_of_mem _ (List.mem_flatMap.2 ⟨x, hx, hp⟩))
theorem cnt_app (a b : List (T × T)) : E.cnt (a ++ b) = E.cnt a + E.cnt b := by simp [E.cnt, List.countP_append]
theorem cnt_flat : ∀ ks : List T, E.cnt (ks.flatMap fun x => E.pre x x) = (ks.map ct).sum
  | [] => rfl
  | x :: xs => by rw [List.flatMap_cons, cnt_app, cnt_flat xs, List.map_cons, List.sum_cons]; rfl
theorem ct_eq (t : T) : ct t = (if t.kind = 1 then 1 else 0) + (t.kids.map ct).sum := by
  unfold ct
  rw [pre_self, show ((t, t) :: t.kids.flatMap fun x => E.pre x x) = [(t, t)] ++ t.kids.flatMap fun x => E.pre x x from rfl, cnt_app, cnt_flat]
  congr 1
  by_cases h : t.kind = 1 <;> simp [E.cnt, h]
theorem ct_mk (k a : Int) (s : List U.S.R) (n : List UInt8) (ks : List T) : ct (.mk k a s n ks) = (if k = 1 then 1 else 0) + (ks.map ct).sum := ct_eq _
theorem kids0 {t : T} (h : Okt t) (h0 : E.kidsOf t.kind = 0) : t.kids = [] := by
  have := (okt_self h).1
  rw [h0] at this
  exact List.eq_nil_of_length_eq_zero (by omega)
theorem kids1 {t : T} (h : Okt t) (h0 : E.kidsOf t.kind = 1) : ∃ x, t.kids = [x] := by
  have := (okt_self h).1
  rw [h0] at this
  exact List.length_eq_one_iff.1 (by omega)
theorem kids2 {t : T} (h : Okt t) (h0 : E.kidsOf t.kind = 2) : ∃ x y, t.kids = [x, y] := by
  have := (okt_self h).1
  rw [h0] at this
  match hk : t.kids with
  | [x, y] => exact ⟨x, y, rfl⟩
  | [] => rw [hk] at this; simp at this
  | [x] => rw [hk] at this; simp at this
  | x :: y :: z :: l => rw [hk] at this; simp at this; omega
theorem gd_add : ∀ (n : Nat) (t : T), SizeOf.sizeOf t < n → Okt t → Gd (add t) (ct t)
  | 0, _, h, _ => absurd h (Nat.not_lt_zero _)
  | n + 1, .mk k a s nm ks, h, ho => by
    have ih : ∀ x ∈ ks, Gd (add x) (ct x) := fun x hx => gd_add n x (by
      have := List.sizeOf_lt_of_mem hx
      simp at h
      omega) (okt_kid ho hx)
    rw [add_mk, ct_mk]
    by_cases h2 : k = 4 ∨ k = 5
    · obtain ⟨x, y, rfl⟩ : ∃ x y, ks = [x, y] := kids2 ho (by simp [T.kind, E.kidsOf, h2])
      have hk1 : k ≠ 1 := by omega
      have := gd_step (ih x (by simp)) (ih y (by simp)) k s
      simp only [cN, if_neg hk1, if_pos h2] at this
      simpa [hk1] using this
    · by_cases h1 : k = 6 ∨ k = 7 ∨ k = 8
      · obtain ⟨x, rfl⟩ : ∃ x, ks = [x] := kids1 ho (by simp [T.kind, E.kidsOf, h2, h1])
        have hk1 : k ≠ 1 := by omega
        have := gd_step (ih x (by simp)) gd_nil k s
        simp only [cN, if_neg hk1, if_neg h2, if_pos h1] at this
        simpa [hk1] using this
      · obtain rfl : ks = [] := kids0 ho (by simp [T.kind, E.kidsOf, h2, h1])
        have := gd_step gd_nil gd_nil k s
        simp only [cN, if_neg h2, if_neg h1] at this
        simp only [List.map_nil, List.getD_nil, List.sum_nil, Nat.add_zero]
        by_cases hk1 : k = 1
        · rw [if_pos hk1] at this ⊢; exact this
        · rw [if_neg hk1] at this ⊢; exact this
end PA
theorem gd_tree {t : T} (h : PA.Okt t) : PA.Gd (PA.add t) (PA.ct t) := PA.gd_add _ t (Nat.lt_succ_self _) h
/-- What a call of add over a tree does. -/
def AddOK (t : T) : Prop := ∀ (w0 w : World) (A : Nat) (x : PA.En) (st : List PA.Pl) (d : ND), 0 < w0.heap.size → Deb w0 → TR w0 (fun _ => True) t d.v → Below w0.heap.size w0 w → AutoAt w w0.heap.size A x st → (∀ p ∈ st, p.2 < 2 ^ st.length) → st.length + PA.ct t ≤ 60 →
  Calls Tryz.prog 49 #[.pointer (some ⟨A, 0, none⟩), d.v] w fun e W => e = .returned (encE (PA.add t st).2) ∧ AutoAt W w0.heap.size A x (PA.add t st).1 ∧ PF w0.heap.size A w W
theorem PF.bel {n A : Nat} {w0 w W : World} (h : PF n A w W) (hb : Below n w0 w) : Below n w0 W := hb.trans h.below
theorem AutoAt.join {w : World} {B A : Nat} {x : PA.En} {st : List PA.Pl} (h : AutoAt w B A x st) (f t : Nat) (hf : f < 2 ^ st.length) (ht : t < 2 ^ st.length) (hq : ∀ p ∈ st, p.2 < 2 ^ st.length) (hlen : st.length ≤ 60) (h0 : 0 < B) (hd : Deb w) :
    Calls Tryz.prog 82 #[.pointer (some ⟨A, 0, none⟩), .int .u64 (f : Int), .int .u64 (t : Int)] w fun e W => (∃ u, e = .returned u) ∧ AutoAt W B A x (PA.join f t st) ∧ PF B A w W := by
  obtain ⟨v, qs, rfl, h⟩ := h
  simp only [List.length_map] at hf ht hq hlen
  refine (join_any h f t hf (PA.up ht (by omega)) (fun q hq' => PA.up (hq q.1 (List.mem_map_of_mem hq')) (by omega)) (by omega) h0 hd).mono ?_
  rintro e W ⟨he, ha, hp⟩
  exact ⟨he, ⟨v, _, qsS_join f t qs, ha⟩, hp⟩
set_option maxRecDepth 100000 in
set_option maxHeartbeats 2000000 in
theorem addRow_of {t : T} (hok : PA.Okt t) (h : AddOK t) (w0 w : World) (A : Nat) (x : PA.En) (st : List PA.Pl) (d : ND) (h0 : 0 < w0.heap.size) (hdeb : Deb w0) (hT : TR w0 (fun _ => True) t d.v) (hb : Below w0.heap.size w0 w) (hA : AutoAt w w0.heap.size A x st) (hq : ∀ p ∈ st, p.2 < 2 ^ st.length) (hlen : st.length + PA.ct t ≤ 60) :
    Calls Tryz.prog 85 #[.pointer (some ⟨A, 0, none⟩), d.v] w fun e W => e = .returned (encE (PA.row (PA.add t) st).2) ∧ AutoAt W w0.heap.size A x (PA.row (PA.add t) st).1 ∧ PF w0.heap.size A w W := by
  have hg := gd_tree hok
  have hB : w0.heap.size ≤ w.heap.size := hb.size
  have hAl := hA.lt
  have b1 := al1 w (.cells #[.int .i64 d.k, .int .i64 d.a, .slice d.sp d.sl d.sc, .string d.n, .slice d.kp d.kl d.kc] 26)
  have n1 := heap_alloc_new w (.cells #[.int .i64 d.k, .int .i64 d.a, .slice d.sp d.sl d.sc, .string d.n, .slice d.kp d.kl d.kc] 26)
  have s1 : (w.alloc (.cells #[.int .i64 d.k, .int .i64 d.a, .slice d.sp d.sl d.sc, .string d.n, .slice d.kp d.kl d.kc] 26)).heap.size = w.heap.size + 1 := by simp
  obtain ⟨X1, hX1⟩ : ∃ X1, w.alloc (.cells #[.int .i64 d.k, .int .i64 d.a, .slice d.sp d.sl d.sc, .string d.n, .slice d.kp d.kl d.kc] 26) = X1 := ⟨_, rfl⟩
  rw [hX1] at b1 n1 s1
  have b2 := al1 X1 (.cells #[.int .u64 0, .int .u64 0, .bool false] 85)
  have n2 := heap_alloc_new X1 (.cells #[.int .u64 0, .int .u64 0, .bool false] 85)
  have s2 : (X1.alloc (.cells #[.int .u64 0, .int .u64 0, .bool false] 85)).heap.size = w.heap.size + 2 := by simp [s1]
  obtain ⟨X2, hX2⟩ : ∃ X2, X1.alloc (.cells #[.int .u64 0, .int .u64 0, .bool false] 85) = X2 := ⟨_, rfl⟩
  rw [hX2] at b2 n2 s2
  rw [s1] at n2
  have n1' := (b2.block _ (by omega)).trans n1
  have bX := nx b1 b2
  have hcall := h w0 X2 A x st d h0 hdeb hT (hb.trans (bX.mono hB)) (hA.later bX) hq hlen
  have hgl := hg.len st
  have hgf := hg.f st
  have hgll := hg.l st
  have hgfl := hg.fl st hq
  have hrow : PA.row (PA.add t) st = (PA.join (PA.add t st).2.l (PA.add t st).2.f (PA.add t st).1, (PA.add t st).2) := rfl
  rw [hrow]
  generalize PA.add t st = r at *
  obtain ⟨st1, ef, el, en⟩ := r
  dsimp only at *
  obtain ⟨q0, q1, q2, q3, q4⟩ := cells_five n1'
  unfold ND.v encE at hcall
  unfold ND.v encE
  clear hrow hT h hg
  dsimp only at hcall ⊢
  go_enter Tryz.func85, Tryz.ntmps85
  go_wp2_with fail
  refine hcall.mono ?_
  rintro e W1 ⟨rfl, ha1, hp1⟩
  have hp2 : PF w0.heap.size A w W1 := (PF.of bX hB).trans hp1
  have r1 : W1.heap[w.heap.size + 1]? = some (.cells #[.int .u64 0, .int .u64 0, .bool false] 85) := hp1.at_ n2 (by omega) (by decide)
  have z1 : w.heap.size + 2 ≤ W1.heap.size := by have := hp1.size; omega
  clear hcall q0 q1 q2 q3 q4 hX1 hX2 n1 n1' n2 b1 b2 bX hp1 hA
  have a3 := al1 W1 (.cells #[.int .u64 (ef : Int), .int .u64 (el : Int), .bool en] 85)
  have n3 := heap_alloc_new W1 (.cells #[.int .u64 (ef : Int), .int .u64 (el : Int), .bool en] 85)
  have s3 : (W1.alloc (.cells #[.int .u64 (ef : Int), .int .u64 (el : Int), .bool en] 85)).heap.size = W1.heap.size + 1 := by simp
  have hp3 := hp2.trans (PF.of a3 (by omega))
  have hJ := (ha1.later a3).join el ef (by rw [hgl]; exact hgll) (by rw [hgl]; exact hgf) (by rw [hgl]; exact hgfl) (by omega) h0 (hdeb.later (hp3.bel hb))
  have r3 := (a3.block _ (by omega)).trans r1
  clear r1 a3 hp2
  go_wp2_with fail
  refine hJ.mono ?_
  rintro e W4 ⟨⟨u, rfl⟩, ha4, hp4⟩
  have hp5 := hp3.trans hp4
  have r4 := hp4.at_ r3 (by omega) (by decide)
  have n4 := hp4.at_ n3 (by omega) (by decide)
  have z4 : W1.heap.size + 1 ≤ W4.heap.size := by have := hp4.size; omega
  clear hJ r3 n3 hp3 hp4 s3
  have q0 : W4.cell? ⟨W1.heap.size, 0, none⟩ = some (.int .u64 (ef : Int)) := by simp [World.cell?, n4]
  have q1 : W4.cell? ⟨W1.heap.size, 1, none⟩ = some (.int .u64 (el : Int)) := by simp [World.cell?, n4]
  have q2 : W4.cell? ⟨W1.heap.size, 2, none⟩ = some (.bool en) := by simp [World.cell?, n4]
  have p0 : W4.cell? ⟨w.heap.size + 1, 0, none⟩ = some (.int .u64 0) := by simp [World.cell?, r4]
  have p1 : W4.cell? ⟨w.heap.size + 1, 1, none⟩ = some (.int .u64 0) := by simp [World.cell?, r4]
  have p2 : W4.cell? ⟨w.heap.size + 1, 2, none⟩ = some (.bool false) := by simp [World.cell?, r4]
  have f0 : W4.frozen? ⟨w.heap.size + 1, 0, none⟩ = false := by simp [World.frozen?, r4]
  have f1 : W4.frozen? ⟨w.heap.size + 1, 1, none⟩ = false := by simp [World.frozen?, r4]
  have f2 : W4.frozen? ⟨w.heap.size + 1, 2, none⟩ = false := by simp [World.frozen?, r4]
  have HA := hide (ha4.put3 (b := w.heap.size + 1) (y := ⟨ef, el, en⟩) (z := zE) r4)
  have HP := hide (hp5.put3 (b := w.heap.size + 1) (y := ⟨ef, el, en⟩) hB (by omega))
  clear ha4 hp5 n4 r4 ha1
  go_wp2
  exact bodyPost_ret (v := .agg #[.int .u64 (ef : Int), .int .u64 (el : Int), .bool en]) (by simp [results, Tryz.results85, go_sem, p0, p1, p2]) rfl ⟨rfl, HA.out, HP.out⟩
theorem plain2 {x y : T} (k a : Int) (s : List U.S.R) (nm : List UInt8) (st : List PA.Pl) : PA.add (.mk k a s nm [x, y]) st = PA.step k s (PA.add x) (PA.add y) st := by rw [PA.add_mk]; rfl
theorem plain1 {x : T} (k a : Int) (s : List U.S.R) (nm : List UInt8) (st : List PA.Pl) : PA.add (.mk k a s nm [x]) st = PA.step k s (PA.add x) PA.nil st := by rw [PA.add_mk]; rfl
theorem plain0 (k a : Int) (s : List U.S.R) (nm : List UInt8) (st : List PA.Pl) : PA.add (.mk k a s nm []) st = PA.step k s PA.nil PA.nil st := by rw [PA.add_mk]; rfl
/-- What is there when the kind is asked. -/
structure Ent (w0 w X : World) (A : Nat) (x : PA.En) (st : List PA.Pl) (c0 c1 c2 c3 c4 : Value) : Prop where
  pos : 0 < w0.heap.size
  deb : Deb w0
  bel : Below w0.heap.size w0 w
  belX : Below w.heap.size w X
  au : AutoAt X w0.heap.size A x st
  al : A < w.heap.size
  box : X.heap[w.heap.size]? = some (.cells #[c0, c1, c2, c3, c4] 26)
  res : X.heap[w.heap.size + 1]? = some (.cells #[.int .u64 0, .int .u64 0, .bool false] 85)
  size : X.heap.size = w.heap.size + 2
theorem ent_of {w0 w : World} {A : Nat} {x : PA.En} {st : List PA.Pl} (h0 : 0 < w0.heap.size) (hd : Deb w0) (hb : Below w0.heap.size w0 w) (hA : AutoAt w w0.heap.size A x st) (c0 c1 c2 c3 c4 : Value) : Ent w0 w ((w.alloc (.cells #[c0, c1, c2, c3, c4] 26)).alloc (.cells #[.int .u64 0, .int .u64 0, .bool false] 85)) A x st c0 c1 c2 c3 c4 := by
  have b1 := al1 w (.cells #[c0, c1, c2, c3, c4] 26)
  have b2 := al1 (w.alloc (.cells #[c0, c1, c2, c3, c4] 26)) (.cells #[.int .u64 0, .int .u64 0, .bool false] 85)
  have n2 := heap_alloc_new (w.alloc (.cells #[c0, c1, c2, c3, c4] 26)) (.cells #[.int .u64 0, .int .u64 0, .bool false] 85)
  have s1 : (w.alloc (.cells #[c0, c1, c2, c3, c4] 26)).heap.size = w.heap.size + 1 := by simp
  rw [s1] at n2
  exact ⟨h0, hd, hb, nx b1 b2, hA.later (nx b1 b2), hA.lt.2, (b2.block _ (by omega)).trans (heap_alloc_new _ _), n2, by simp⟩
theorem cells_three {W : World} {b : Nat} {u0 u1 u2 : Value} (h : W.heap[b]? = some (.cells #[u0, u1, u2] 85)) : W.cell? ⟨b, 0, none⟩ = some u0 ∧ W.cell? ⟨b, 1, none⟩ = some u1 ∧ W.cell? ⟨b, 2, none⟩ = some u2 ∧ W.frozen? ⟨b, 0, none⟩ = false ∧ W.frozen? ⟨b, 1, none⟩ = false ∧ W.frozen? ⟨b, 2, none⟩ = false := by
  simp [World.cell?, World.frozen?, h]
/-- A result cell is written and returned. -/
theorem ret49 {w0 w W : World} {A : Nat} {x y : PA.En} {st : List PA.Pl} {tm : Array Value} {Q : Ending → World → Prop} (hp : PF w0.heap.size A w W) (hB : w0.heap.size ≤ w.heap.size) (hr : W.heap[w.heap.size + 1]? = some (.cells #[.int .u64 0, .int .u64 0, .bool false] 85)) (ha : AutoAt W w0.heap.size A x st)
    (ht : tm.getD 4 undef = .pointer (some ⟨w.heap.size + 1, 0, none⟩)) (hQ : ∀ W', AutoAt W' w0.heap.size A x st → PF w0.heap.size A w W' → Q (.returned (encE y)) W') :
    bodyPost Tryz.prog Tryz.f49 Q .ret { tmps := tm, defers := [] } (put3 W (w.heap.size + 1) y) := by
  have hbx := put3_box (x := y) hr
  refine bodyPost_ret (v := encE y) ?_ rfl (hQ _ (ha.put3 (z := zE) hr) (hp.put3 hB (by omega)))
  have p0 : (put3 W (w.heap.size + 1) y).cell? ⟨w.heap.size + 1, 0, none⟩ = some (.int .u64 (y.f : Int)) := by simp [World.cell?, hbx]
  have p1 : (put3 W (w.heap.size + 1) y).cell? ⟨w.heap.size + 1, 1, none⟩ = some (.int .u64 (y.l : Int)) := by simp [World.cell?, hbx]
  have p2 : (put3 W (w.heap.size + 1) y).cell? ⟨w.heap.size + 1, 2, none⟩ = some (.bool y.n) := by simp [World.cell?, hbx]
  generalize put3 W (w.heap.size + 1) y = W' at *
  rw [res_cell (p := 4) (ty := 85) rfl, ht]
  simp [asAddr, loadVar, Sem.run_bind, Result.andThen, go_sem, p0, p1, p2, encE]
set_option maxRecDepth 100000 in
set_option maxHeartbeats 2000000 in
theorem add_set {w0 w : World} {A : Nat} {x : PA.En} {st : List PA.Pl} (a : Int) (s : List U.S.R) (hs : s.length ≤ 200) (nm : ByteArray) (sp kp : Option Addr) (sc kl kc : Nat) (hr : U.RdR w0 sp s) (h0 : 0 < w0.heap.size) (hd : Deb w0) (hb : Below w0.heap.size w0 w) (hA : AutoAt w w0.heap.size A x st) (hlen : st.length + 1 ≤ 60) :
    Calls Tryz.prog 49 #[.pointer (some ⟨A, 0, none⟩), .agg #[.int .i64 1, .int .i64 a, .slice sp s.length sc, .string nm, .slice kp kl kc]] w fun e W => e = .returned (encE ⟨2 ^ st.length, 2 ^ st.length, false⟩) ∧ AutoAt W w0.heap.size A x (st ++ [(s, 0)]) ∧ PF w0.heap.size A w W := by
  have he := ent_of h0 hd hb hA (.int .i64 1) (.int .i64 a) (.slice sp s.length sc) (.string nm) (.slice kp kl kc)
  obtain ⟨X, hX⟩ : ∃ X, (w.alloc (.cells #[.int .i64 1, .int .i64 a, .slice sp s.length sc, .string nm, .slice kp kl kc] 26)).alloc (.cells #[.int .u64 0, .int .u64 0, .bool false] 85) = X := ⟨_, rfl⟩
  rw [hX] at he
  obtain ⟨q0, q1, q2, q3, q4⟩ := cells_five he.box
  have hcall : Calls Tryz.prog 81 #[.pointer (some ⟨A, 0, none⟩), .slice sp s.length sc] X fun e W => e = .returned (encE ⟨2 ^ st.length, 2 ^ st.length, false⟩) ∧ AutoAt W w0.heap.size A x (st ++ [(s, 0)]) ∧ PF w0.heap.size A X W := by
    obtain ⟨v, qs, rfl, ha⟩ := he.au
    simp only [List.length_map] at hlen ⊢
    refine (addPlace_any ha sp sc s (hr.later (hb.trans (he.belX.mono hb.size))) (by omega) (by omega)).mono ?_
    rintro e W ⟨rfl, ⟨v', vs, h1⟩, h2⟩
    exact ⟨rfl, ⟨v', _, by simp, h1⟩, h2⟩
  have HE := hide he
  have hB : w0.heap.size ≤ w.heap.size := hb.size
  unfold encE at hcall
  unfold encE
  dsimp only at hcall ⊢
  generalize 2 ^ st.length = it at *
  clear he hr hA hs hd h0
  go_enter Tryz.func49, Tryz.ntmps49
  go_wp2_with fail
  refine hcall.mono ?_
  rintro e W1 ⟨rfl, ha1, hp1⟩
  have HP := hide ((PF.of HE.out.belX hB).trans hp1)
  have HA := hide ha1
  have HR := hide (hp1.at_ HE.out.res (by have := HE.out.al; omega) (by decide))
  clear hcall ha1 hp1 q0 q1 q2 q3 q4 hX
  obtain ⟨p0, p1, p2, f0, f1, f2⟩ := cells_three HR.out
  go_wp2
  exact ret49 (y := ⟨it, it, false⟩) HP.out hB HR.out HA.out rfl fun W' h1 h2 => ⟨rfl, h1, h2⟩
set_option maxRecDepth 100000 in
set_option maxHeartbeats 2000000 in
theorem add_none {w0 w : World} {A : Nat} {x : PA.En} {st : List PA.Pl} (k a : Int) (hk : k ≠ 1 ∧ k ≠ 4 ∧ k ≠ 5 ∧ k ≠ 6 ∧ k ≠ 7 ∧ k ≠ 8) (nm : ByteArray) (sp kp : Option Addr) (sl sc kl kc : Nat) (h0 : 0 < w0.heap.size) (hd : Deb w0) (hb : Below w0.heap.size w0 w) (hA : AutoAt w w0.heap.size A x st) :
    Calls Tryz.prog 49 #[.pointer (some ⟨A, 0, none⟩), .agg #[.int .i64 k, .int .i64 a, .slice sp sl sc, .string nm, .slice kp kl kc]] w fun e W => e = .returned (encE PA.none) ∧ AutoAt W w0.heap.size A x st ∧ PF w0.heap.size A w W := by
  have he := ent_of h0 hd hb hA (.int .i64 k) (.int .i64 a) (.slice sp sl sc) (.string nm) (.slice kp kl kc)
  obtain ⟨X, hX⟩ : ∃ X, (w.alloc (.cells #[.int .i64 k, .int .i64 a, .slice sp sl sc, .string nm, .slice kp kl kc] 26)).alloc (.cells #[.int .u64 0, .int .u64 0, .bool false] 85) = X := ⟨_, rfl⟩
  rw [hX] at he
  obtain ⟨q0, q1, q2, q3, q4⟩ := cells_five he.box
  have hcall := empty_any X
  have HE := hide he
  have hB : w0.heap.size ≤ w.heap.size := hb.size
  have t1 : (k == 1) = false := by simp [hk.1]
  have t4 : (k == 4) = false := by simp [hk.2.1]
  have t5 : (k == 5) = false := by simp [hk.2.2.1]
  have t6 : (k == 6) = false := by simp [hk.2.2.2.1]
  have t7 : (k == 7) = false := by simp [hk.2.2.2.2.1]
  have t8 : (k == 8) = false := by simp [hk.2.2.2.2.2]
  unfold encE at hcall
  unfold encE
  clear he hA hd h0 hk
  go_enter Tryz.func49, Tryz.ntmps49
  go_wp2_with fail
  refine hcall.mono ?_
  rintro e W1 ⟨rfl, hb1⟩
  have HP := hide (PF.of (A := A) (nx HE.out.belX hb1) hB)
  have HA := hide (HE.out.au.later hb1)
  have HR := hide ((hb1.block _ (by have := HE.out.size; omega)).trans HE.out.res)
  clear hcall hb1 q0 q1 q2 q3 q4 hX
  obtain ⟨p0, p1, p2, f0, f1, f2⟩ := cells_three HR.out
  go_wp2
  exact ret49 (y := PA.none) HP.out hB HR.out HA.out rfl fun W' h1 h2 => ⟨rfl, h1, h2⟩
set_option maxRecDepth 100000 in
set_option maxHeartbeats 2000000 in
theorem add_plus {w0 w : World} {A kb koff : Nat} {x e1 : PA.En} {st st1 : List PA.Pl} {d0 : ND} (a : Int) (nm : ByteArray) (sp : Option Addr) (sl sc kl kc : Nat) (hk0 : Cells5 w0 kb koff d0.v) (hkl : 1 ≤ kl) (h0 : 0 < w0.heap.size) (hd : Deb w0) (hb : Below w0.heap.size w0 w) (hA : AutoAt w w0.heap.size A x st)
    (hc1 : ∀ w, Below w0.heap.size w0 w → AutoAt w w0.heap.size A x st → Calls Tryz.prog 85 #[.pointer (some ⟨A, 0, none⟩), d0.v] w fun e W => e = .returned (encE e1) ∧ AutoAt W w0.heap.size A x st1 ∧ PF w0.heap.size A w W) :
    Calls Tryz.prog 49 #[.pointer (some ⟨A, 0, none⟩), .agg #[.int .i64 7, .int .i64 a, .slice sp sl sc, .string nm, .slice (some ⟨kb, koff, none⟩) kl kc]] w fun e W => e = .returned (encE e1) ∧ AutoAt W w0.heap.size A x st1 ∧ PF w0.heap.size A w W := by
  have he := ent_of h0 hd hb hA (.int .i64 7) (.int .i64 a) (.slice sp sl sc) (.string nm) (.slice (some ⟨kb, koff, none⟩) kl kc)
  obtain ⟨X, hX⟩ : ∃ X, (w.alloc (.cells #[.int .i64 7, .int .i64 a, .slice sp sl sc, .string nm, .slice (some ⟨kb, koff, none⟩) kl kc] 26)).alloc (.cells #[.int .u64 0, .int .u64 0, .bool false] 85) = X := ⟨_, rfl⟩
  rw [hX] at he
  obtain ⟨q0, q1, q2, q3, q4⟩ := cells_five he.box
  have hcall := hc1 X (hb.trans (he.belX.mono hb.size)) he.au
  have HE := hide he
  have hB : w0.heap.size ≤ w.heap.size := hb.size
  have hkb := cells5_lt hk0
  have hkX := cells5_same hk0 ((he.belX.block kb (by omega)).trans (hb.block kb hkb))
  obtain ⟨y0, y1, y2, y3, y4, ev, g0, g1, g2, g3, g4⟩ := hkX
  unfold ND.v at ev hcall
  simp only [Value.agg.injEq, Array.mk.injEq, List.cons.injEq, and_true] at ev
  obtain ⟨rfl, rfl, rfl, rfl, rfl⟩ := ev
  have es := elemSizeN
  unfold encE at hcall
  unfold encE
  clear he hA hd h0 hk0 hc1
  go_enter Tryz.func49, Tryz.ntmps49
  go_wp2_with fail
  refine hcall.mono ?_
  rintro e W1 ⟨rfl, ha1, hp1⟩
  have hp2 := (PF.of HE.out.belX hB).trans hp1
  have r2 := hp1.at_ HE.out.res (by have := HE.out.al; omega) (by decide)
  clear hcall hp1 q0 q1 q2 q3 q4 g0 g1 g2 g3 g4 hX
  have HP := hide hp2
  have HA := hide ha1
  have HR := hide r2
  clear hp2 ha1 r2
  obtain ⟨p0, p1, p2, f0, f1, f2⟩ := cells_three HR.out
  go_wp2
  exact ret49 (y := e1) HP.out hB HR.out HA.out rfl fun W' h1 h2 => ⟨rfl, h1, h2⟩
set_option maxRecDepth 100000 in
set_option maxHeartbeats 2000000 in
theorem add_star {w0 w : World} {A kb koff : Nat} {x e1 : PA.En} {st st1 : List PA.Pl} {d0 : ND} (a : Int) (nm : ByteArray) (sp : Option Addr) (sl sc kl kc : Nat) (hk0 : Cells5 w0 kb koff d0.v) (hkl : 1 ≤ kl) (h0 : 0 < w0.heap.size) (hd : Deb w0) (hb : Below w0.heap.size w0 w) (hA : AutoAt w w0.heap.size A x st) (hel : e1.f < 2 ^ 64 ∧ e1.l < 2 ^ 64)
    (hc1 : ∀ w, Below w0.heap.size w0 w → AutoAt w w0.heap.size A x st → Calls Tryz.prog 85 #[.pointer (some ⟨A, 0, none⟩), d0.v] w fun e W => e = .returned (encE e1) ∧ AutoAt W w0.heap.size A x st1 ∧ PF w0.heap.size A w W) :
    Calls Tryz.prog 49 #[.pointer (some ⟨A, 0, none⟩), .agg #[.int .i64 6, .int .i64 a, .slice sp sl sc, .string nm, .slice (some ⟨kb, koff, none⟩) kl kc]] w fun e W => e = .returned (encE (PA.or e1 PA.none)) ∧ AutoAt W w0.heap.size A x st1 ∧ PF w0.heap.size A w W := by
  have he := ent_of h0 hd hb hA (.int .i64 6) (.int .i64 a) (.slice sp sl sc) (.string nm) (.slice (some ⟨kb, koff, none⟩) kl kc)
  obtain ⟨X, hX⟩ : ∃ X, (w.alloc (.cells #[.int .i64 6, .int .i64 a, .slice sp sl sc, .string nm, .slice (some ⟨kb, koff, none⟩) kl kc] 26)).alloc (.cells #[.int .u64 0, .int .u64 0, .bool false] 85) = X := ⟨_, rfl⟩
  rw [hX] at he
  obtain ⟨q0, q1, q2, q3, q4⟩ := cells_five he.box
  have hcall := hc1 X (hb.trans (he.belX.mono hb.size)) he.au
  have HE := hide he
  have hB : w0.heap.size ≤ w.heap.size := hb.size
  have hkb := cells5_lt hk0
  have hkX := cells5_same hk0 ((he.belX.block kb (by omega)).trans (hb.block kb hkb))
  obtain ⟨y0, y1, y2, y3, y4, ev, g0, g1, g2, g3, g4⟩ := hkX
  unfold ND.v at ev hcall
  simp only [Value.agg.injEq, Array.mk.injEq, List.cons.injEq, and_true] at ev
  obtain ⟨rfl, rfl, rfl, rfl, rfl⟩ := ev
  have es := elemSizeN
  have hem := fun W => empty_any W
  have hor := fun W => or_any e1 PA.none hel.1 hel.2 (by decide) (by decide) W
  unfold encE at hcall hem hor
  unfold encE
  clear he hA hd h0 hk0 hc1
  go_enter Tryz.func49, Tryz.ntmps49
  go_wp2_with fail
  refine hcall.mono ?_
  rintro e W1 ⟨rfl, ha1, hp1⟩
  have hp2 := (PF.of HE.out.belX hB).trans hp1
  have r2 := hp1.at_ HE.out.res (by have := HE.out.al; omega) (by decide)
  clear hcall hp1 q0 q1 q2 q3 q4 g0 g1 g2 g3 g4 hX
  go_wp2_with fail
  refine (hem _).mono ?_
  rintro e W2 ⟨rfl, hb2⟩
  have hp3 := hp2.trans (PF.of hb2 (by have := hp2.size; omega))
  have ha2 := ha1.later hb2
  have r3 := (hb2.block _ (Array.getElem?_eq_some_iff.1 r2).1).trans r2
  clear hp2 ha1 r2 hb2 hem
  go_wp2_with fail
  refine (hor _).mono ?_
  rintro e W3 ⟨rfl, hb3⟩
  have HP := hide (hp3.trans (PF.of hb3 (by have := hp3.size; omega)))
  have HA := hide (ha2.later hb3)
  have HR := hide ((hb3.block _ (Array.getElem?_eq_some_iff.1 r3).1).trans r3)
  clear hp3 ha2 r3 hb3 hor
  obtain ⟨p0, p1, p2, f0, f1, f2⟩ := cells_three HR.out
  go_wp2
  exact ret49 (y := PA.or e1 PA.none) HP.out hB HR.out HA.out rfl fun W' h1 h2 => ⟨rfl, h1, h2⟩
set_option maxRecDepth 100000 in
set_option maxHeartbeats 2000000 in
theorem add_opt {w0 w : World} {A kb koff : Nat} {x e1 : PA.En} {st st1 : List PA.Pl} {d0 : ND} (a : Int) (nm : ByteArray) (sp : Option Addr) (sl sc kl kc : Nat) (hk0 : Cells5 w0 kb koff d0.v) (hkl : 1 ≤ kl) (h0 : 0 < w0.heap.size) (hd : Deb w0) (hb : Below w0.heap.size w0 w) (hA : AutoAt w w0.heap.size A x st) (hel : e1.f < 2 ^ 64 ∧ e1.l < 2 ^ 64)
    (hc1 : ∀ w, Below w0.heap.size w0 w → AutoAt w w0.heap.size A x st → Calls Tryz.prog 49 #[.pointer (some ⟨A, 0, none⟩), d0.v] w fun e W => e = .returned (encE e1) ∧ AutoAt W w0.heap.size A x st1 ∧ PF w0.heap.size A w W) :
    Calls Tryz.prog 49 #[.pointer (some ⟨A, 0, none⟩), .agg #[.int .i64 8, .int .i64 a, .slice sp sl sc, .string nm, .slice (some ⟨kb, koff, none⟩) kl kc]] w fun e W => e = .returned (encE (PA.or e1 PA.none)) ∧ AutoAt W w0.heap.size A x st1 ∧ PF w0.heap.size A w W := by
  have he := ent_of h0 hd hb hA (.int .i64 8) (.int .i64 a) (.slice sp sl sc) (.string nm) (.slice (some ⟨kb, koff, none⟩) kl kc)
  obtain ⟨X, hX⟩ : ∃ X, (w.alloc (.cells #[.int .i64 8, .int .i64 a, .slice sp sl sc, .string nm, .slice (some ⟨kb, koff, none⟩) kl kc] 26)).alloc (.cells #[.int .u64 0, .int .u64 0, .bool false] 85) = X := ⟨_, rfl⟩
  rw [hX] at he
  obtain ⟨q0, q1, q2, q3, q4⟩ := cells_five he.box
  have hcall := hc1 X (hb.trans (he.belX.mono hb.size)) he.au
  have HE := hide he
  have hB : w0.heap.size ≤ w.heap.size := hb.size
  have hkb := cells5_lt hk0
  have hkX := cells5_same hk0 ((he.belX.block kb (by omega)).trans (hb.block kb hkb))
  obtain ⟨y0, y1, y2, y3, y4, ev, g0, g1, g2, g3, g4⟩ := hkX
  unfold ND.v at ev hcall
  simp only [Value.agg.injEq, Array.mk.injEq, List.cons.injEq, and_true] at ev
  obtain ⟨rfl, rfl, rfl, rfl, rfl⟩ := ev
  have es := elemSizeN
  have hem := fun W => empty_any W
  have hor := fun W => or_any e1 PA.none hel.1 hel.2 (by decide) (by decide) W
  unfold encE at hcall hem hor
  unfold encE
  clear he hA hd h0 hk0 hc1
  go_enter Tryz.func49, Tryz.ntmps49
  go_wp2_with fail
  refine hcall.mono ?_
  rintro e W1 ⟨rfl, ha1, hp1⟩
  have hp2 := (PF.of HE.out.belX hB).trans hp1
  have r2 := hp1.at_ HE.out.res (by have := HE.out.al; omega) (by decide)
  clear hcall hp1 q0 q1 q2 q3 q4 g0 g1 g2 g3 g4 hX
  go_wp2_with fail
  refine (hem _).mono ?_
  rintro e W2 ⟨rfl, hb2⟩
  have hp3 := hp2.trans (PF.of hb2 (by have := hp2.size; omega))
  have ha2 := ha1.later hb2
  have r3 := (hb2.block _ (Array.getElem?_eq_some_iff.1 r2).1).trans r2
  clear hp2 ha1 r2 hb2 hem
  go_wp2_with fail
  refine (hor _).mono ?_
  rintro e W3 ⟨rfl, hb3⟩
  have HP := hide (hp3.trans (PF.of hb3 (by have := hp3.size; omega)))
  have HA := hide (ha2.later hb3)
  have HR := hide ((hb3.block _ (Array.getElem?_eq_some_iff.1 r3).1).trans r3)
  clear hp3 ha2 r3 hb3 hor
  obtain ⟨p0, p1, p2, f0, f1, f2⟩ := cells_three HR.out
  go_wp2
  exact ret49 (y := PA.or e1 PA.none) HP.out hB HR.out HA.out rfl fun W' h1 h2 => ⟨rfl, h1, h2⟩
end Go.Proofs.YtemanednddhfaaaGreatDoor
