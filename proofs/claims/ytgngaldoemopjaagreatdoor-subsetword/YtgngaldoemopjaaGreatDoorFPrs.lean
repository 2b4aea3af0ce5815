/- Joined: Prs. -/
import Derived.Test.YtgngaldoemopjaaGreatDoorFUHas
import Derived.Sort.QuietIn
namespace Go.Proofs.YtgngaldoemopjaaGreatDoor
open Go.RowKit Go.Shelf
open E (T)
attribute [local go_sem] Oper.semAt_some
def notS : Option Obj → Bool
 | some (.cells _ e _) => !(e == 9)
 | _ => true
structure Fr (n m : Nat) (W W' : World) : Prop where
 os : W'.os = W.os
 tape : W'.tape = W.tape
 output : W'.output = W.output
 size : W.heap.size ≤ W'.heap.size
 lo : ∀ k, k < n → W'.heap[k]? = W.heap[k]?
 hi : ∀ k, m ≤ k → k < W.heap.size → notS W.heap[k]? = true → W'.heap[k]? = W.heap[k]?
theorem Fr.below {n m : Nat} {W W' : World} (h : Fr n m W W') : Below n W W' := ⟨h.os, h.tape, h.output, h.size, h.lo⟩
theorem Fr.keep {n m : Nat} {W W' : World} (h : Fr n m W W') {k : Nat} {o : Obj} (hk : W.heap[k]? = some o) (hm : m ≤ k) (hn : notS (some o) = true := by rfl) : W'.heap[k]? = some o := (h.hi k hm (Array.getElem?_eq_some_iff.1 hk).1 (by rw [hk]; exact hn)).trans hk
theorem Fr.row {n m B : Nat} {W W' : World} {e : TypeId} {size : Nat} {v : Value} {k : Nat} {xs : List Value} (h : Fr n m W W') (hB : m ≤ B) (ho : W.ownsRow B e size v k xs) (he : (!(e == 9)) = true := by rfl) : W'.ownsRow B e size v k xs := by
 obtain ⟨h1, h2 | ⟨g, cp, cur, h3, h4, h5, h6⟩⟩ := ho
 · exact ⟨h1, .inl h2⟩
 · exact ⟨h1, .inr ⟨g, cp, cur, h3, h4, h.keep h5 (Nat.le_trans hB h4) he, h6⟩⟩
structure KpT (n : Nat) (W W' : World) : Prop where
 below : Below n W W'
 txt : ∀ k, k < W.heap.size → notS W.heap[k]? = false → W'.heap[k]? = W.heap[k]?
theorem KpT.of {n : Nat} {W W' : World} (h : Below W.heap.size W W') (hn : n ≤ W.heap.size) : KpT n W W' := ⟨h.mono hn, fun k hk _ => h.block k hk⟩
theorem KpT.refl (n : Nat) (W : World) : KpT n W W := ⟨Below.refl _ _, fun _ _ _ => rfl⟩
theorem KpT.mono {n m : Nat} {W W' : World} (h : KpT n W W') (hm : m ≤ n) : KpT m W W' := ⟨h.below.mono hm, h.txt⟩
theorem KpT.drew {n : Nat} {a b : World} (h : KpT n a b) : KpT n a b.drew := ⟨h.below.drew, h.txt⟩
theorem KpT.set {n : Nat} {W W' : World} (h : KpT n W W') {p : Addr} {o : Obj} (hp : n ≤ p.block) (ho : W'.heap[p.block]? = some o) (hs : notS (some o) = true) (u : Value) : KpT n W (W'.setCell p u) :=
 ⟨h.below.setCell hp u, fun k hk hn => by
   have h1 := h.txt k hk hn
   have hne : k ≠ p.block := by
     rintro rfl
     rw [← h1, ho, hs] at hn
     cases hn
   exact (Below.heap_setCell _ _ _ _ hne).trans h1⟩
theorem KpT.put {n x : Nat} {W W' : World} (h : KpT n W W') {o : Obj} (hx : n ≤ x) (ho : W'.heap[x]? = some o) (hs : notS (some o) = true) (o' : Obj) : KpT n W (W'.putObj x o') :=
 ⟨h.below.trans ⟨rfl, rfl, rfl, by rw [World.putObj_size]; exact Nat.le_refl _, fun j hj => World.putObj_heap_other (by omega)⟩, fun k hk hn => by
   have h1 := h.txt k hk hn
   have hne : k ≠ x := by
     rintro rfl
     rw [← h1, ho, hs] at hn
     cases hn
   exact (World.putObj_heap_other hne).trans h1⟩
theorem KpT.grown {n B k : Nat} {W W' : World} {e : TypeId} {size : Nat} {v : Value} {xs : List Value} {tmp : Obj} (ho : W.ownsRow B e size v k xs) (he : (!(e == 9)) = true) (hg : (W.alloc tmp).grownBy W' v.ownBlock) (hb : Below n W W') : KpT n W W' :=
 ⟨hb, fun i hi hn => by
   refine (hg.block i (by simp; omega) (fun e' => ?_)).trans (Below.heap_alloc _ _ _ hi)
   obtain ⟨_, ⟨rfl, _⟩ | ⟨g, cap, cur, rfl, _, hg', _⟩⟩ := ho
   · simp [Value.ownBlock] at e'
   · simp [Value.ownBlock] at e'
     subst e'
     rw [hg'] at hn
     simp only [notS] at hn
     rw [hn] at he
     cases he⟩
def cS (st : List (Value × Value)) : List Value := st.reverse.flatMap fun p => [p.1, p.2]
theorem cS_cons (p : Value × Value) (st : List (Value × Value)) : cS (p :: st) = cS st ++ [p.1, p.2] := by simp [cS]
theorem cS_length (st : List (Value × Value)) : (cS st).length = st.length * 2 := by
 induction st with
 | nil => rfl
 | cons p st ih => rw [cS_cons, List.length_append, ih]; simp; omega
inductive Stk (w : World) : List (Value × Value) → List (List T × List T) → Prop
 | nil : Stk w [] []
 | cons {va vb : Value} {xs ys : List T} {st : List (Value × Value)} {ls : List (List T × List T)} : KV w xs va → KV w ys vb → Stk w st ls → Stk w ((va, vb) :: st) ((xs, ys) :: ls)
theorem info199 : (Tryz.prog.info? 199).map (fun i => (i.zero, i.size, i.bytes)) = some (some (.agg #[.slice none 0 0, .slice none 0 0]), 2, 48) := by kernel_rfl
theorem row_top {W : World} {B g q cap : Nat} {va vb : Value} {st : List (Value × Value)} (h : W.ownsRow B 199 2 (.slice (some ⟨g, 0, none⟩) (st.length + 1) cap) (st.length + 1) (cS ((va, vb) :: st))) (hq : q = st.length) :
   ∃ cur, W.heap[g]? = some (.cells cur 199 (0, 0)) ∧ B ≤ g ∧ W.cell? ⟨g, q * 2, none⟩ = some va ∧ W.cell? ⟨g, q * 2 + 1, none⟩ = some vb ∧ st.length + 1 ≤ cap ∧ cap ≤ maxLen ∧ cur.size = cap * 2 ∧ cur.toList.take ((st.length + 1) * 2) = cS st ++ [va, vb] := by
 subst hq
 obtain ⟨h1, h2 | ⟨g', cp, cur, h3, h4, h5, h6, h7, h8, h9⟩⟩ := h
 · cases h2.1
 · cases h3
   have key : ∀ j, j < 2 → W.cell? ⟨g, st.length * 2 + j, none⟩ = [va, vb][j]? := by
     intro j hj
     have e : (cur.toList.take ((st.length + 1) * 2))[st.length * 2 + j]? = (cS ((va, vb) :: st))[st.length * 2 + j]? := by rw [h9]
     rw [List.getElem?_take, if_pos (by omega), cS_cons, List.getElem?_append_right (by rw [cS_length]; omega), cS_length, show st.length * 2 + j - st.length * 2 = j by omega] at e
     simp only [World.cell?, h5]
     rw [← e]
     simp
   exact ⟨cur, h5, h4, key 0 (by omega), key 1 (by omega), h6, h7, h8, by rw [h9, cS_cons]⟩
theorem row_pop {W : World} {B g cap : Nat} {va vb : Value} {st : List (Value × Value)} {cur : Array Value} (hg : W.heap[g]? = some (.cells cur 199 (0, 0))) (hB : B ≤ g) (hc : st.length + 1 ≤ cap) (hm : cap ≤ maxLen) (hs : cur.size = cap * 2) (ht : cur.toList.take ((st.length + 1) * 2) = cS st ++ [va, vb]) :
   W.ownsRow B 199 2 (.slice (some ⟨g, 0, none⟩) st.length cap) st.length (cS st) := by
 refine ⟨cS_length st, .inr ⟨g, cap, cur, rfl, hB, hg, by omega, hm, hs, ?_⟩⟩
 have := congrArg (List.take (st.length * 2)) ht
 rw [List.take_take, Nat.min_eq_left (by omega), ← cS_length, List.take_left] at this
 rw [← cS_length]
 exact this
set_option maxRecDepth 100000 in
theorem cut121 (g q cap : Nat) (hc : q + 1 ≤ cap) (wx : World) : (Instr.slice 200 (.slice (some ⟨g, 0, none⟩) (q + 1) cap) none (some (.int .i64 (q : Int))) none).run Tryz.prog wx = .ok (.slice (some ⟨g, 0, none⟩) q cap) wx := by
 have := run_slice_h (P := Tryz.prog) (w := wx) 200 (some ⟨g, 0, none⟩) (q + 1) cap Tryz.underlying200 .i64 (q : Int) (by omega) (by omega)
 rw [this, elemSize200]
 simp [Result.andThen, sliced, Addr.add]
theorem row_set {W : World} {B g cap : Nat} {va vb u v : Value} {st : List (Value × Value)} {cur : Array Value} (hg : W.heap[g]? = some (.cells cur 199 (0, 0))) (hB : B ≤ g) (hc : st.length + 1 ≤ cap) (hm : cap ≤ maxLen) (hs : cur.size = cap * 2) (ht : cur.toList.take ((st.length + 1) * 2) = cS st ++ [va, vb]) :
   ((W.setCell ⟨g, st.length * 2, none⟩ u).setCell ⟨g, st.length * 2 + 1, none⟩ v).ownsRow B 199 2 (.slice (some ⟨g, 0, none⟩) (st.length + 1) cap) (st.length + 1) (cS ((u, v) :: st)) := by
 have hg2 : ((W.setCell ⟨g, st.length * 2, none⟩ u).setCell ⟨g, st.length * 2 + 1, none⟩ v).heap[g]? = some (.cells ((cur.setIfInBounds (st.length * 2) u).setIfInBounds (st.length * 2 + 1) v) 199 (0, 0)) := by
   simp [World.setCell, Array.getElem?_modify, hg]
 refine ⟨by rw [cS_length, List.length_cons], .inr ⟨g, cap, _, rfl, hB, hg2, hc, hm, by simpa using hs, ?_⟩⟩
 have e : cur.toList = cS st ++ ([va, vb] ++ cur.toList.drop ((st.length + 1) * 2)) := by
   rw [← List.append_assoc, ← ht, List.take_append_drop]
 rw [Array.toList_setIfInBounds, Array.toList_setIfInBounds, e, ← cS_length st, List.set_append_right _ _ (Nat.le_refl _), Nat.sub_self, List.set_append_right _ _ (by omega), show (cS st).length + 1 - (cS st).length = 1 by omega]
 rw [cS_cons, show (st.length + 1) * 2 = (cS st).length + 2 by rw [cS_length]; omega, List.take_append, List.take_of_length_le (by omega)]
 simp
theorem cells5_at {w W : World} {b o : Nat} {d : ND} (h : Cells5 w b o d.v) (hB : Below w.heap.size w W) : W.cell? ⟨b, o, none⟩ = some (.int .i64 d.k) ∧ W.cell? ⟨b, o + 1, none⟩ = some (.int .i64 d.a) ∧ W.cell? ⟨b, o + 2, none⟩ = some (.slice d.sp d.sl d.sc) ∧ W.cell? ⟨b, o + 3, none⟩ = some (.string d.n) ∧ W.cell? ⟨b, o + 4, none⟩ = some (.slice d.kp d.kl d.kc) := by
 have hb := cells5_lt h
 obtain ⟨c0, c1, c2, c3, c4, e, h0, h1, h2, h3, h4⟩ := h
 have k : ∀ j, W.cell? ⟨b, j, none⟩ = w.cell? ⟨b, j, none⟩ := fun j => hB.cell (p := ⟨b, j, none⟩) hb
 unfold ND.v at e
 simp only [Value.agg.injEq, Array.mk.injEq, List.cons.injEq, and_true] at e
 obtain ⟨rfl, rfl, rfl, rfl, rfl⟩ := e
 exact ⟨by rw [k]; exact h0, by rw [k]; exact h1, by rw [k]; exact h2, by rw [k]; exact h3, by rw [k]; exact h4⟩
theorem new_cellsP (W : World) (xs : List Value) (t : TypeId) (cs : Array Value) (hcs : cs = xs.toArray) : ∀ j u, xs[j]? = some u → (W.alloc (.cells cs t)).cell? ((⟨W.heap.size, 0, none⟩ : Addr).add j) = some u := by
 intro j u hj
 subst hcs
 rw [adAdd]
 simp only [World.cell?, heap_alloc_new, Nat.zero_add]
 simpa using hj
theorem two_oldP (w : World) (o p : Obj) : ((w.alloc o).alloc p).drew.heap[w.heap.size]? = some o := (Below.heap_alloc (w.alloc o) p w.heap.size (by simp)).trans (heap_alloc_new w o)
theorem two_newP (w : World) (o p : Obj) : ((w.alloc o).alloc p).drew.heap[w.heap.size + 1]? = some p := by
 have := heap_alloc_new (w.alloc o) p
 rw [World.size_alloc] at this
 exact this
set_option maxRecDepth 100000 in
set_option maxHeartbeats 8000000 in
theorem pairs_in (n : Nat) (hn : 1 ≤ n) (w0 : World) (a b : T) (da db : ND) (hTa : TR w0 (fun _ => True) a da.v) (hTb : TR w0 (fun _ => True) b db.v) (hps : (E.pre a b).length ≤ 1000000) (m0 ba bb l : Nat) (hm : w0.heap.size ≤ m0) (hba : m0 ≤ ba) (hbb : m0 ≤ bb)
   (J Stop : Nat → World → Prop) (W0 : World) (hxa : W0.heap[ba]? = some (.cells #[.int .i64 da.k, .int .i64 da.a, .slice da.sp da.sl da.sc, .string da.n, .slice da.kp da.kl da.kc] 25)) (hxb : W0.heap[bb]? = some (.cells #[.int .i64 db.k, .int .i64 db.a, .slice db.sp db.sl db.sc, .string db.n, .slice db.kp db.kl db.kc] 25)) (hB0 : Below w0.heap.size w0 W0)
   (hJ : ∀ i W W', J i W → KpT W0.heap.size W W' → J i W')
   (hY : ∀ i (hi : i < (E.pre a b).length) W (d1 d2 : ND), J i W → W0.heap.size ≤ W.heap.size → Below w0.heap.size w0 W → TR w0 (fun _ => True) (E.pre a b)[i].1 d1.v → TR w0 (fun _ => True) (E.pre a b)[i].2 d2.v →
     YieldAt Fence.wide (n - 1) Tryz.prog l #[d1.v, d2.v] W fun e W' => (e = .returned (.bool true) ∧ Fr w0.heap.size m0 W W' ∧ J (i + 1) W') ∨ (e = .returned (.bool false) ∧ Stop i W'))
   (h0 : J 0 W0) :
   CallsIn Fence.wide n Tryz.prog 117 #[.func (.yield l) #[] #[], .pointer (some ⟨ba, 0, none⟩), .pointer (some ⟨bb, 0, none⟩)] W0 fun e W' => (∃ v, e = .returned v) ∧ (J (E.pre a b).length W' ∨ ∃ i, i < (E.pre a b).length ∧ Stop i W') := by
 have hpe := E.pre_eq a b
 have hlen : 0 < (E.pre a b).length := by rw [hpe]; simp
 have hp0 : (E.pre a b)[0] = (a, b) := by simp [hpe]
 have hrem : (E.pre a b).drop 1 = E.remS [(a.kids, b.kids)] := by rw [hpe]; simp [E.remS]
 have hka := hTa.kv
 have hkb := hTb.kv
 have hs0 := hB0.size
 have hlta : ba < W0.heap.size := (Array.getElem?_eq_some_iff.1 hxa).1
 have hltb : bb < W0.heap.size := (Array.getElem?_eq_some_iff.1 hxb).1
 obtain ⟨fn, tmps, assign, body, hy, hR⟩ := hY 0 hlen W0 da db h0 (Nat.le_refl _) hB0 (by rw [hp0]; exact hTa) (by rw [hp0]; exact hTb)
 obtain ⟨c0, c1, c2, c3, c4⟩ := cells_five hxa
 obtain ⟨d0, d1, d2, d3, d4⟩ := cells_five hxb
 have HP := hide hps
 have HREM := hide hrem
 generalize E.pre a b = ps at *
 clear hpe hp0 hrem hps
 unfold ND.v at hy
 refine callsIn_of_wp Tryz.func117 rfl trivial ?_ rfl
 simp only [Tryz.ntmps117, List.size_toArray, List.length_cons, List.length_nil, Nat.reduceAdd, Nat.reduceSub, Array.replicate_succ, Array.replicate_zero, List.push_toArray, List.append_toArray, List.nil_append, List.cons_append]
 gi_wp2
 refine hR.mono ?_
 rintro e W1 (⟨rfl, hfr, hJ1⟩ | ⟨rfl, hS1⟩)
 · have hxa1 := hfr.keep hxa hba
   have hxb1 := hfr.keep hxb hbb
   have hB1 := hB0.trans hfr.below
   have hs1 := hfr.size
   clear hfr hy hR c0 c1 c2 c3 c4 d0 d1 d2 d3 d4
   obtain ⟨c0, c1, c2, c3, c4⟩ := cells_five hxa1
   obtain ⟨d0, d1, d2, d3, d4⟩ := cells_five hxb1
   have hrow : (W1.alloc (.cells #[.slice da.kp da.kl da.kc, .slice db.kp db.kl db.kc] 199)).ownsRow W0.heap.size 199 2 (.slice (some ⟨W1.heap.size, 0, none⟩) 1 1) 1 (cS [(.slice da.kp da.kl da.kc, .slice db.kp db.kl db.kc)]) :=
     ⟨rfl, .inr ⟨W1.heap.size, 1, _, rfl, hs1, heap_alloc_new W1 _, Nat.le_refl _, by unfold maxLen; omega, rfl, rfl⟩⟩
   have hal := al1 W1 (.cells #[.slice da.kp da.kl da.kc, .slice db.kp db.kl db.kc] 199)
   have hJ2 := hJ _ _ _ hJ1 (KpT.of hal hs1)
   have hB2 := hB1.trans (hal.mono (by omega))
   gi_wp2
   gi_loopg [4] (2 * ps.length) (fun k v wr => ∃ (i : Nat) (st : List (Value × Value)) (ls : List (List T × List T)), wr.ownsRow W0.heap.size 199 2 v st.length (cS st) ∧ Stk w0 st ls ∧ J i wr ∧ Below w0.heap.size w0 wr ∧ W0.heap.size ≤ wr.heap.size ∧ i ≤ ps.length ∧ st.length ≤ i ∧ Hid (k = 2 * (ps.length - i) + st.length + 1) ∧ Hid (ps.drop i = E.remS ls))
   case atStart => exact ⟨1, _, _, hrow, .cons hka hkb .nil, hJ2, hB2, by simp; omega, hlen, Nat.le_refl _, hide (by simp; omega), HREM⟩
   case round =>
     obtain ⟨i, st, ls, hrow, hst, hJi, hB, hsz, hi, hsti, HK, HD⟩ := hrel
     cases hst with
     | nil =>
       have hil : i = ps.length := by
         have := congrArg List.length HD.out
         simp [E.remS] at this
         omega
       obtain ⟨pp, cc, hv⟩ : ∃ pp cc, u4 = .slice pp 0 cc := by
         obtain ⟨_, h2 | ⟨g, cp, cur, h3, _⟩⟩ := hrow
         · exact ⟨_, _, h2.1⟩
         · exact ⟨_, _, h3⟩
       subst hv
       have HIL := hide hil
       clear hil HD HK hY hrow
       gi_wp2
       go_end0
       exact ⟨⟨_, rfl⟩, .inl (by rw [← HIL.out]; exact hJi)⟩
     | @cons va vb xs ys st ls hka1 hkb1 hst1 =>
       obtain ⟨g, cap, hv⟩ : ∃ g cap, u4 = .slice (some ⟨g, 0, none⟩) (st.length + 1) cap := by
         obtain ⟨_, h2 | ⟨g, cp, cur, h3, _⟩⟩ := hrow
         · exact absurd h2.2 (by simp)
         · exact ⟨_, _, h3⟩
       subst hv
       rw [List.length_cons] at hrow hsti
       obtain ⟨cur, hg, hBg, hca, hcb, hcap, hmx, hcs, htk⟩ := row_top hrow rfl
       have hix := elemSize200
       cases xs with
       | nil =>
         obtain ⟨pa, cpa, rfl, _, _⟩ := hka1
         obtain ⟨pb, cpb, rfl, _, _⟩ := hkb1
         have hrow' := row_pop hg hBg hcap hmx hcs htk
         have hD' : ps.drop i = E.remS ls := by rw [HD.out]; simp only [E.remS, E.preK_nil, List.nil_append]
         have HD' := hide hD'
         have HK' : Hid (gk = 2 * (ps.length - i) + (st.length + 1) + 1) := hide (by have := HK.out; simp at this; omega)
         obtain ⟨q, HQ⟩ : ∃ q, Hid (st.length = q) := ⟨_, hide rfl⟩
         rw [HQ.out] at hca hcb hcap hrow' HK' hsti ⊢
         have hcut := cut121 g q cap hcap
         have hq6 : q ≤ 1000000 := by have := HP.out; omega
         clear HD hD' HK htk hcs hY hJ
         rw [List.length_nil] at *
         gi_wp2
         gi_roundg (gk - 1)
         case measure => have := HK'.out; omega
         case rel => exact ⟨i, st, ls, by rw [HQ.out]; exact hrow', hst1, hJi, hB, hsz, hi, by rw [HQ.out]; omega, hide (by have := HK'.out; have := HQ.out; omega), HD'⟩
       | cons x xs =>
         cases ys with
         | nil =>
           obtain ⟨pa, cpa, rfl, _, _⟩ := hka1
           obtain ⟨pb, cpb, rfl, _, _⟩ := hkb1
           have hrow' := row_pop hg hBg hcap hmx hcs htk
           have hD' : ps.drop i = E.remS ls := by rw [HD.out]; simp only [E.remS, E.preK_nilr, List.nil_append]
           have HD' := hide hD'
           have HK' : Hid (gk = 2 * (ps.length - i) + (st.length + 1) + 1) := hide (by have := HK.out; simp at this; omega)
           obtain ⟨q, HQ⟩ : ∃ q, Hid (st.length = q) := ⟨_, hide rfl⟩
           rw [HQ.out] at hca hcb hcap hrow' HK' hsti ⊢
           have hcut := cut121 g q cap hcap
           have hq6 : q ≤ 1000000 := by have := HP.out; omega
           clear HD hD' HK htk hcs hY hJ
           rw [List.length_nil] at *
           gi_wp2
           gi_roundg (gk - 1)
           case measure => have := HK'.out; omega
           case rel => exact ⟨i, st, ls, by rw [HQ.out]; exact hrow', hst1, hJi, hB, hsz, hi, by rw [HQ.out]; omega, hide (by have := HK'.out; have := HQ.out; omega), HD'⟩
         | cons y ys =>
           obtain ⟨b1, o1, cp1, e1, va', rfl, htr1, hc1, hkv1, ⟨pa', na', ca', hva'⟩, hcut1⟩ := hka1.cons
           obtain ⟨b2, o2, cp2, e2, vb', rfl, htr2, hc2, hkv2, ⟨pb', nb', cb', hvb'⟩, hcut2⟩ := hkb1.cons
           subst hva' hvb'
           obtain ⟨m0', m1, m2, m3, m4⟩ := cells5_at hc1 hB
           obtain ⟨n0', n1, n2, n3, n4⟩ := cells5_at hc2 hB
           have hix24 := elemSize23
           have hgl : g < wr.heap.size := (Array.getElem?_eq_some_iff.1 hg).1
           have hb1l : b1 < wr.heap.size := U.cell_lt m0'
           have hb2l : b2 < wr.heap.size := U.cell_lt n0'
           obtain ⟨q, HQ⟩ : ∃ q, Hid (st.length = q) := ⟨_, hide rfl⟩
           rw [HQ.out] at hca hcb hcap hsti ⊢
           have hq6 : q ≤ 1000000 := by have := HP.out; omega
           obtain ⟨l1, hl1⟩ : ∃ l1, xs.length = l1 := ⟨_, rfl⟩
           obtain ⟨l2, hl2⟩ : ∃ l2, ys.length = l2 := ⟨_, rfl⟩
           rw [hl1] at hca hcut1
           rw [hl2] at hcb hcut2
           have hdr : ps.drop i = (x, y) :: (E.preK x.kids y.kids ++ (E.preK xs ys ++ E.remS ls)) := by
             rw [HD.out]
             simp [E.remS, E.preK_cons, E.pre_eq x y]
           have hlt : i < ps.length := by
             apply Decidable.byContradiction
             intro hh
             rw [List.drop_eq_nil_of_le (by omega)] at hdr
             cases hdr
           have HEL : Hid (ps[i] = (x, y)) := hide (by
             rw [List.drop_eq_getElem_cons hlt] at hdr
             exact (List.cons.inj hdr).1)
           have HD2 : Hid (ps.drop (i + 1) = E.remS ((x.kids, y.kids) :: (xs, ys) :: ls)) := hide (by
             rw [List.drop_eq_getElem_cons hlt] at hdr
             exact (List.cons.inj hdr).2)
           clear hdr HD
           have z1 : ((l1 : Int) + 1 == 0) = false := by simp; omega
           have z2 : ((l2 : Int) + 1 == 0) = false := by simp; omega
           gi_wp2
           refine wpIn_wide.2 ?_
           go_region
           · have hx6 : ((wr.alloc (.cells #[.int .i64 e1.k, .int .i64 e1.a, .slice e1.sp e1.sl e1.sc, .string e1.n, .slice e1.kp e1.kl e1.kc] 25)).alloc (.cells #[.int .i64 e2.k, .int .i64 e2.a, .slice e2.sp e2.sl e2.sc, .string e2.n, .slice e2.kp e2.kl e2.kc] 25)).drew.heap[wr.heap.size]? = some (.cells #[.int .i64 e1.k, .int .i64 e1.a, .slice e1.sp e1.sl e1.sc, .string e1.n, .slice e1.kp e1.kl e1.kc] 25) := by
               exact two_oldP wr _ _
             have hx7 : ((wr.alloc (.cells #[.int .i64 e1.k, .int .i64 e1.a, .slice e1.sp e1.sl e1.sc, .string e1.n, .slice e1.kp e1.kl e1.kc] 25)).alloc (.cells #[.int .i64 e2.k, .int .i64 e2.a, .slice e2.sp e2.sl e2.sc, .string e2.n, .slice e2.kp e2.kl e2.kc] 25)).drew.heap[(wr.heap.size + 1)]? = some (.cells #[.int .i64 e2.k, .int .i64 e2.a, .slice e2.sp e2.sl e2.sc, .string e2.n, .slice e2.kp e2.kl e2.kc] 25) := by
               exact two_newP wr _ _
             have hb6 : Below wr.heap.size wr ((wr.alloc (.cells #[.int .i64 e1.k, .int .i64 e1.a, .slice e1.sp e1.sl e1.sc, .string e1.n, .slice e1.kp e1.kl e1.kc] 25)).alloc (.cells #[.int .i64 e2.k, .int .i64 e2.a, .slice e2.sp e2.sl e2.sc, .string e2.n, .slice e2.kp e2.kl e2.kc] 25)).drew := (nx (al1 wr _) (al1 _ _)).drew
             have hp6 : g < wr.heap.size ∧ g < wr.heap.size + 1 ∧ m0 ≤ wr.heap.size ∧ m0 ≤ wr.heap.size + 1 := ⟨by omega, by omega, by omega, by omega⟩
             obtain ⟨W6, hW6⟩ : ∃ W6, ((wr.alloc (.cells #[.int .i64 e1.k, .int .i64 e1.a, .slice e1.sp e1.sl e1.sc, .string e1.n, .slice e1.kp e1.kl e1.kc] 25)).alloc (.cells #[.int .i64 e2.k, .int .i64 e2.a, .slice e2.sp e2.sl e2.sc, .string e2.n, .slice e2.kp e2.kl e2.kc] 25)).drew = W6 := ⟨_, rfl⟩
             rw [hW6] at hx6 hx7 hb6 ⊢
             obtain ⟨p6, hp6_⟩ : ∃ p6, wr.heap.size = p6 := ⟨_, rfl⟩
             obtain ⟨p7, hp7_⟩ : ∃ p7, (wr.heap.size + 1) = p7 := ⟨_, rfl⟩
             rw [hp7_] at hx7 hp6 ⊢
             rw [hp6_] at hx6 hp6 ⊢
             clear hW6 hp6_ hp7_
             obtain ⟨hg6a, hg7a, hm6, hm7⟩ := hp6
             have hg6 := (hb6.block g hgl).trans hg
             have hs6 := hb6.size
             have k1 : W6.cell? ⟨g, q * 2, none⟩ = some (.slice (some ⟨b1, o1, none⟩) (l1 + 1) cp1) := (hb6.cell (p := ⟨g, q * 2, none⟩) hgl).trans hca
             have k2 : W6.cell? ⟨g, q * 2 + 1, none⟩ = some (.slice (some ⟨b2, o2, none⟩) (l2 + 1) cp2) := (hb6.cell (p := ⟨g, q * 2 + 1, none⟩) hgl).trans hcb
             have f1 : W6.frozen? ⟨g, q * 2, none⟩ = false := by simp [World.frozen?, hg6]
             have f2 : W6.frozen? ⟨g, q * 2 + 1, none⟩ = false := by simp [World.frozen?, hg6]
             gi_wp2
             refine wpIn_wide.2 ?_
             go_region
             have hrow8 := row_set (u := .slice pa' na' ca') (v := .slice pb' nb' cb') hg6 hBg (by rw [HQ.out]; exact hcap) hmx hcs htk
             rw [HQ.out] at hrow8
             have hb8T : KpT W0.heap.size wr ((W6.setCell ⟨g, q * 2, none⟩ (.slice pa' na' ca')).setCell ⟨g, q * 2 + 1, none⟩ (.slice pb' nb' cb')).drew := (((KpT.of hb6 hsz).set (p := ⟨g, q * 2, none⟩) hBg hg6 rfl _).set (p := ⟨g, q * 2 + 1, none⟩) (o := .cells (cur.setIfInBounds (q * 2) (.slice pa' na' ca')) 199 (0, 0)) hBg (by simp [World.setCell, Array.getElem?_modify, hg6]) rfl _).drew
             have hb8 := hb8T.below
             have hx6b : ((W6.setCell ⟨g, q * 2, none⟩ (.slice pa' na' ca')).setCell ⟨g, q * 2 + 1, none⟩ (.slice pb' nb' cb')).drew.heap[p6]? = _ := (Below.heap_setCell _ _ _ _ (Nat.ne_of_gt hg6a)).trans ((Below.heap_setCell _ _ _ _ (Nat.ne_of_gt hg6a)).trans hx6)
             have hx7b : ((W6.setCell ⟨g, q * 2, none⟩ (.slice pa' na' ca')).setCell ⟨g, q * 2 + 1, none⟩ (.slice pb' nb' cb')).drew.heap[p7]? = _ := (Below.heap_setCell _ _ _ _ (Nat.ne_of_gt hg7a)).trans ((Below.heap_setCell _ _ _ _ (Nat.ne_of_gt hg7a)).trans hx7)
             have hrow8' : ((W6.setCell ⟨g, q * 2, none⟩ (.slice pa' na' ca')).setCell ⟨g, q * 2 + 1, none⟩ (.slice pb' nb' cb')).drew.ownsRow W0.heap.size 199 2 (.slice (some ⟨g, 0, none⟩) (q + 1) cap) (q + 1) (cS ((.slice pa' na' ca', .slice pb' nb' cb') :: st)) := hrow8
             obtain ⟨W8, hW8⟩ : ∃ W8, ((W6.setCell ⟨g, q * 2, none⟩ (.slice pa' na' ca')).setCell ⟨g, q * 2 + 1, none⟩ (.slice pb' nb' cb')).drew = W8 := ⟨_, rfl⟩
             rw [hW8] at hb8 hb8T hx6b hx7b hrow8' ⊢
             clear hW8 hrow8 hx6 hx7 hg6 k1 k2 f1 f2
             have hs8 := hb8.size
             have hB8 := hB.trans (hb8.mono hs0)
             obtain ⟨fn2, tmps2, assign2, body2, hy2, hR2⟩ := hY i hlt W8 e1 e2 (hJ _ _ _ hJi hb8T) (by omega) hB8 (by rw [HEL.out]; exact htr1) (by rw [HEL.out]; exact htr2)
             unfold ND.v at hy2
             obtain ⟨s0, s1, s2, s3, s4⟩ := cells_five hx6b
             obtain ⟨t0, t1, t2, t3, t4⟩ := cells_five hx7b
             gi_wp2
             refine hR2.mono ?_
             rintro e W9 (⟨rfl, hfr, hJ9⟩ | ⟨rfl, hS9⟩)
             · have hx6c := hfr.keep hx6b hm6
               have hx7c := hfr.keep hx7b hm7
               have hrow9 := hfr.row (by omega) hrow8'
               have hB9 := hB8.trans hfr.below
               have hs9 := hfr.size
               clear hfr hy2 hR2 hx6b hx7b hrow8' hB8 s0 s1 s2 s3 s4 t0 t1 t2 t3 t4
               obtain ⟨s0, s1, s2, s3, s4⟩ := cells_five hx6c
               obtain ⟨t0, t1, t2, t3, t4⟩ := cells_five hx7c
               obtain ⟨i0, hi0, hz0, hz1, hz2⟩ := U.info_parts2 info199
               have hnn : W0.heap.size ≤ W9.heap.size := by omega
               gi_wp2_with (gi_at_builtin; refine wpListIn_append_own _ rfl _ _ 200 rfl W0.heap.size 199 i0 _ 2 48 Tryz.underlying200 hi0 hz0 hz1 hz2 rfl (by decide) _ _ _ rfl (hrow9.alloc _) ⟨W9.heap.size, 0, none⟩ 1 1 [.slice e1.kp e1.kl e1.kc, .slice e2.kp e2.kl e2.kc] rfl rfl (new_cellsP _ _ _ _ rfl) (by intro u hu; simp at hu; rcases hu with rfl | rfl <;> rfl) (by unfold maxLen; omega) (by omega) (by simp; omega) ?_; intro v' w10 hown' hgrow _)
               have hbl := hrow9.lt
               have hb10 : Below W0.heap.size W9 w10 := ((Below.refl _ W9).alloc hnn _).grown hgrow (by simp; omega) (fun k hk => (hbl k hk).1)
               have hs10 := hb10.size
               gi_roundg (gk - 1)
               case measure => have := HK.out; simp at this; omega
               case rel => exact ⟨i + 1, (.slice e1.kp e1.kl e1.kc, .slice e2.kp e2.kl e2.kc) :: (.slice pa' na' ca', .slice pb' nb' cb') :: st, (x.kids, y.kids) :: (xs, ys) :: ls, by rw [cS_cons, List.length_cons, List.length_cons, HQ.out]; exact hown', .cons htr1.kv htr2.kv (.cons hkv1 hkv2 hst1), hJ _ _ _ hJ9 (KpT.grown hrow9 rfl hgrow hb10), hB9.trans (hb10.mono hs0), by omega, by omega, by rw [List.length_cons, List.length_cons, HQ.out]; omega, hide (by have := HK.out; rw [List.length_cons] at this; rw [List.length_cons, List.length_cons]; omega), HD2⟩
             · clear hy2 hR2 s0 s1 s2 s3 s4 t0 t1 t2 t3 t4
               gi_wp2
               exact bodyPost_ret (v := .tuple #[]) (by simp [results, Tryz.results117, go_sem]) rfl ⟨⟨_, rfl⟩, .inr ⟨i, hlt, hS9⟩⟩
           · have hx6 : ((wr.alloc (.cells #[.int .i64 e2.k, .int .i64 e2.a, .slice e2.sp e2.sl e2.sc, .string e2.n, .slice e2.kp e2.kl e2.kc] 25)).alloc (.cells #[.int .i64 e1.k, .int .i64 e1.a, .slice e1.sp e1.sl e1.sc, .string e1.n, .slice e1.kp e1.kl e1.kc] 25)).drew.heap[(wr.heap.size + 1)]? = some (.cells #[.int .i64 e1.k, .int .i64 e1.a, .slice e1.sp e1.sl e1.sc, .string e1.n, .slice e1.kp e1.kl e1.kc] 25) := by
               exact two_newP wr _ _
             have hx7 : ((wr.alloc (.cells #[.int .i64 e2.k, .int .i64 e2.a, .slice e2.sp e2.sl e2.sc, .string e2.n, .slice e2.kp e2.kl e2.kc] 25)).alloc (.cells #[.int .i64 e1.k, .int .i64 e1.a, .slice e1.sp e1.sl e1.sc, .string e1.n, .slice e1.kp e1.kl e1.kc] 25)).drew.heap[wr.heap.size]? = some (.cells #[.int .i64 e2.k, .int .i64 e2.a, .slice e2.sp e2.sl e2.sc, .string e2.n, .slice e2.kp e2.kl e2.kc] 25) := by
               exact two_oldP wr _ _
             have hb6 : Below wr.heap.size wr ((wr.alloc (.cells #[.int .i64 e2.k, .int .i64 e2.a, .slice e2.sp e2.sl e2.sc, .string e2.n, .slice e2.kp e2.kl e2.kc] 25)).alloc (.cells #[.int .i64 e1.k, .int .i64 e1.a, .slice e1.sp e1.sl e1.sc, .string e1.n, .slice e1.kp e1.kl e1.kc] 25)).drew := (nx (al1 wr _) (al1 _ _)).drew
             have hp6 : g < wr.heap.size + 1 ∧ g < wr.heap.size ∧ m0 ≤ wr.heap.size + 1 ∧ m0 ≤ wr.heap.size := ⟨by omega, by omega, by omega, by omega⟩
             obtain ⟨W6, hW6⟩ : ∃ W6, ((wr.alloc (.cells #[.int .i64 e2.k, .int .i64 e2.a, .slice e2.sp e2.sl e2.sc, .string e2.n, .slice e2.kp e2.kl e2.kc] 25)).alloc (.cells #[.int .i64 e1.k, .int .i64 e1.a, .slice e1.sp e1.sl e1.sc, .string e1.n, .slice e1.kp e1.kl e1.kc] 25)).drew = W6 := ⟨_, rfl⟩
             rw [hW6] at hx6 hx7 hb6 ⊢
             obtain ⟨p6, hp6_⟩ : ∃ p6, (wr.heap.size + 1) = p6 := ⟨_, rfl⟩
             obtain ⟨p7, hp7_⟩ : ∃ p7, wr.heap.size = p7 := ⟨_, rfl⟩
             rw [hp6_] at hx6 hp6 ⊢
             rw [hp7_] at hx7 hp6 ⊢
             clear hW6 hp6_ hp7_
             obtain ⟨hg6a, hg7a, hm6, hm7⟩ := hp6
             have hg6 := (hb6.block g hgl).trans hg
             have hs6 := hb6.size
             have k1 : W6.cell? ⟨g, q * 2, none⟩ = some (.slice (some ⟨b1, o1, none⟩) (l1 + 1) cp1) := (hb6.cell (p := ⟨g, q * 2, none⟩) hgl).trans hca
             have k2 : W6.cell? ⟨g, q * 2 + 1, none⟩ = some (.slice (some ⟨b2, o2, none⟩) (l2 + 1) cp2) := (hb6.cell (p := ⟨g, q * 2 + 1, none⟩) hgl).trans hcb
             have f1 : W6.frozen? ⟨g, q * 2, none⟩ = false := by simp [World.frozen?, hg6]
             have f2 : W6.frozen? ⟨g, q * 2 + 1, none⟩ = false := by simp [World.frozen?, hg6]
             gi_wp2
             refine wpIn_wide.2 ?_
             go_region
             have hrow8 := row_set (u := .slice pa' na' ca') (v := .slice pb' nb' cb') hg6 hBg (by rw [HQ.out]; exact hcap) hmx hcs htk
             rw [HQ.out] at hrow8
             have hb8T : KpT W0.heap.size wr ((W6.setCell ⟨g, q * 2, none⟩ (.slice pa' na' ca')).setCell ⟨g, q * 2 + 1, none⟩ (.slice pb' nb' cb')).drew := (((KpT.of hb6 hsz).set (p := ⟨g, q * 2, none⟩) hBg hg6 rfl _).set (p := ⟨g, q * 2 + 1, none⟩) (o := .cells (cur.setIfInBounds (q * 2) (.slice pa' na' ca')) 199 (0, 0)) hBg (by simp [World.setCell, Array.getElem?_modify, hg6]) rfl _).drew
             have hb8 := hb8T.below
             have hx6b : ((W6.setCell ⟨g, q * 2, none⟩ (.slice pa' na' ca')).setCell ⟨g, q * 2 + 1, none⟩ (.slice pb' nb' cb')).drew.heap[p6]? = _ := (Below.heap_setCell _ _ _ _ (Nat.ne_of_gt hg6a)).trans ((Below.heap_setCell _ _ _ _ (Nat.ne_of_gt hg6a)).trans hx6)
             have hx7b : ((W6.setCell ⟨g, q * 2, none⟩ (.slice pa' na' ca')).setCell ⟨g, q * 2 + 1, none⟩ (.slice pb' nb' cb')).drew.heap[p7]? = _ := (Below.heap_setCell _ _ _ _ (Nat.ne_of_gt hg7a)).trans ((Below.heap_setCell _ _ _ _ (Nat.ne_of_gt hg7a)).trans hx7)
             have hrow8' : ((W6.setCell ⟨g, q * 2, none⟩ (.slice pa' na' ca')).setCell ⟨g, q * 2 + 1, none⟩ (.slice pb' nb' cb')).drew.ownsRow W0.heap.size 199 2 (.slice (some ⟨g, 0, none⟩) (q + 1) cap) (q + 1) (cS ((.slice pa' na' ca', .slice pb' nb' cb') :: st)) := hrow8
             obtain ⟨W8, hW8⟩ : ∃ W8, ((W6.setCell ⟨g, q * 2, none⟩ (.slice pa' na' ca')).setCell ⟨g, q * 2 + 1, none⟩ (.slice pb' nb' cb')).drew = W8 := ⟨_, rfl⟩
             rw [hW8] at hb8 hb8T hx6b hx7b hrow8' ⊢
             clear hW8 hrow8 hx6 hx7 hg6 k1 k2 f1 f2
             have hs8 := hb8.size
             have hB8 := hB.trans (hb8.mono hs0)
             obtain ⟨fn2, tmps2, assign2, body2, hy2, hR2⟩ := hY i hlt W8 e1 e2 (hJ _ _ _ hJi hb8T) (by omega) hB8 (by rw [HEL.out]; exact htr1) (by rw [HEL.out]; exact htr2)
             unfold ND.v at hy2
             obtain ⟨s0, s1, s2, s3, s4⟩ := cells_five hx6b
             obtain ⟨t0, t1, t2, t3, t4⟩ := cells_five hx7b
             gi_wp2
             refine hR2.mono ?_
             rintro e W9 (⟨rfl, hfr, hJ9⟩ | ⟨rfl, hS9⟩)
             · have hx6c := hfr.keep hx6b hm6
               have hx7c := hfr.keep hx7b hm7
               have hrow9 := hfr.row (by omega) hrow8'
               have hB9 := hB8.trans hfr.below
               have hs9 := hfr.size
               clear hfr hy2 hR2 hx6b hx7b hrow8' hB8 s0 s1 s2 s3 s4 t0 t1 t2 t3 t4
               obtain ⟨s0, s1, s2, s3, s4⟩ := cells_five hx6c
               obtain ⟨t0, t1, t2, t3, t4⟩ := cells_five hx7c
               obtain ⟨i0, hi0, hz0, hz1, hz2⟩ := U.info_parts2 info199
               have hnn : W0.heap.size ≤ W9.heap.size := by omega
               gi_wp2_with (gi_at_builtin; refine wpListIn_append_own _ rfl _ _ 200 rfl W0.heap.size 199 i0 _ 2 48 Tryz.underlying200 hi0 hz0 hz1 hz2 rfl (by decide) _ _ _ rfl (hrow9.alloc _) ⟨W9.heap.size, 0, none⟩ 1 1 [.slice e1.kp e1.kl e1.kc, .slice e2.kp e2.kl e2.kc] rfl rfl (new_cellsP _ _ _ _ rfl) (by intro u hu; simp at hu; rcases hu with rfl | rfl <;> rfl) (by unfold maxLen; omega) (by omega) (by simp; omega) ?_; intro v' w10 hown' hgrow _)
               have hbl := hrow9.lt
               have hb10 : Below W0.heap.size W9 w10 := ((Below.refl _ W9).alloc hnn _).grown hgrow (by simp; omega) (fun k hk => (hbl k hk).1)
               have hs10 := hb10.size
               gi_roundg (gk - 1)
               case measure => have := HK.out; simp at this; omega
               case rel => exact ⟨i + 1, (.slice e1.kp e1.kl e1.kc, .slice e2.kp e2.kl e2.kc) :: (.slice pa' na' ca', .slice pb' nb' cb') :: st, (x.kids, y.kids) :: (xs, ys) :: ls, by rw [cS_cons, List.length_cons, List.length_cons, HQ.out]; exact hown', .cons htr1.kv htr2.kv (.cons hkv1 hkv2 hst1), hJ _ _ _ hJ9 (KpT.grown hrow9 rfl hgrow hb10), hB9.trans (hb10.mono hs0), by omega, by omega, by rw [List.length_cons, List.length_cons, HQ.out]; omega, hide (by have := HK.out; rw [List.length_cons] at this; rw [List.length_cons, List.length_cons]; omega), HD2⟩
             · clear hy2 hR2 s0 s1 s2 s3 s4 t0 t1 t2 t3 t4
               gi_wp2
               exact bodyPost_ret (v := .tuple #[]) (by simp [results, Tryz.results117, go_sem]) rfl ⟨⟨_, rfl⟩, .inr ⟨i, hlt, hS9⟩⟩
 · clear hy hR c0 c1 c2 c3 c4 d0 d1 d2 d3 d4
   gi_wp2
   exact bodyPost_ret (v := .tuple #[]) (by simp [results, Tryz.results117, go_sem]) rfl ⟨⟨_, rfl⟩, .inr ⟨0, hlen, hS1⟩⟩
end Go.Proofs.YtgngaldoemopjaaGreatDoor
