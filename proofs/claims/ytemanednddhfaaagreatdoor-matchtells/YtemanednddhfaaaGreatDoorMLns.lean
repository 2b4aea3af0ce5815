/- Joined: Lns. -/
import Derived.Test.YtemanednddhfaaaGreatDoorMFwd
import Derived.Test.YtemanednddhfaaaGreatDoorMRdp
import Derived.Test.YtemanednddhfaaaGreatDoorMPlm
import Derived.Test.YtemanednddhfaaaGreatDoorMPlc
namespace Go.Proofs.YtemanednddhfaaaGreatDoor
open Go.RowKit Go.Shelf
open E (Ps Rx T rxOf Vp)
attribute [local go_sem] Oper.semAt_some
def Ow (pb : Nat) (W : World) (k : Nat) : Prop := ∃ v t f, W.heap[pb]? = some (.cells #[v] t f) ∧ v.ownBlock = some k
theorem Ow.of {pb : Nat} {W W' : World} (h : W'.heap[pb]? = W.heap[pb]?) {k : Nat} (ho : Ow pb W' k) : Ow pb W k := by
 unfold Ow at ho ⊢
 rw [h] at ho
 exact ho
structure KpO (pb n : Nat) (W W' : World) : Prop where
 below : Below n W W'
 own : ∀ k, k < W.heap.size → Ow pb W k → W'.heap[k]? = W.heap[k]?
theorem KpO.refl (pb n : Nat) (W : World) : KpO pb n W W := ⟨Below.refl _ _, fun _ _ _ => rfl⟩
theorem KpO.of {pb n : Nat} {W W' : World} (h : Below W.heap.size W W') (hn : n ≤ W.heap.size) : KpO pb n W W' := ⟨h.mono hn, fun k hk _ => h.block k hk⟩
theorem KpO.put {pb n x : Nat} {W W' : World} (h : KpO pb n W W') (hx : n ≤ x) (ho : ¬ Ow pb W x) (o' : Obj) : KpO pb n W (W'.putObj x o') :=
 ⟨h.below.trans ⟨rfl, rfl, rfl, by rw [World.putObj_size]; exact Nat.le_refl _, fun j hj => World.putObj_heap_other (by omega)⟩, fun k hk hk' => by
   have hne : k ≠ x := by rintro rfl; exact ho hk'
   exact (World.putObj_heap_other hne).trans (h.own k hk hk')⟩
theorem KpO.set {pb n x j : Nat} {W W' : World} (h : KpO pb n W W') (hx : n ≤ x) (ho : ¬ Ow pb W x) (u : Value) : KpO pb n W (W'.setCell ⟨x, j, none⟩ u) :=
 ⟨h.below.setCell hx u, fun k hk hk' => by
   have hne : k ≠ x := by rintro rfl; exact ho hk'
   exact (Below.heap_setCell _ _ _ _ hne).trans (h.own k hk hk')⟩
theorem KpO.kr {pb n b o lo hi : Nat} {W W' : World} (h : Kr b o lo hi W W') (hb : n ≤ b) (hl : n ≤ lo) (hn : n ≤ W.heap.size) (hob : ¬ Ow pb W b) (hol : ∀ k, lo ≤ k → k < hi → ¬ Ow pb W k) : KpO pb n W W' :=
 ⟨⟨h.os, h.tape, h.output, h.size, fun k hk => h.blk k (by omega) (by omega) (by omega)⟩, fun k hk ho => h.blk k hk (by rintro rfl; exact hob ho) (by
   rcases Nat.lt_or_ge k lo with h1 | h1
   · exact .inl h1
   · rcases Nat.lt_or_ge k hi with h2 | h2
     · exact absurd ho (hol k h1 h2)
     · exact .inr h2)⟩
structure FrO (pb n m : Nat) (W W' : World) : Prop where
 os : W'.os = W.os
 tape : W'.tape = W.tape
 output : W'.output = W.output
 size : W.heap.size ≤ W'.heap.size
 lo : ∀ k, k < n → W'.heap[k]? = W.heap[k]?
 hi : ∀ k, m ≤ k → k < W.heap.size → ¬ Ow pb W k → W'.heap[k]? = W.heap[k]?
 own : ∀ k, k < W.heap.size → Ow pb W' k → Ow pb W k
theorem FrO.below {pb n m : Nat} {W W' : World} (h : FrO pb n m W W') : Below n W W' := ⟨h.os, h.tape, h.output, h.size, h.lo⟩
def hit (zs : List Int) (x : Rx) (m : Nat) : Bool := if m = 0 then x.nul else (E.run zs x.ps m).en
theorem hit_iff (zs : List Int) (x : Rx) (m : Nat) (hm : m ≤ zs.length) : hit zs x m = true ↔ x.L (zs.take m) := by
 unfold hit
 by_cases h : m = 0
 · subst h
   rw [if_pos rfl, List.take_zero]
   exact E.Rx.nul_iff x
 · rw [if_neg h]
   exact E.run_en zs x m hm (by omega)
theorem hit_dead (zs : List Int) (x : Rx) {n m : Nat} (h0 : 0 < n) (hm : n ≤ m) (hg : (E.run zs x.ps n).go = false) : hit zs x m = false := by
 unfold hit
 rw [if_neg (by omega), E.run_dead zs x n m h0 hm hg]
 exact (E.run_ok zs x n).en_go hg
theorem skips {J : Nat → World → Prop} {h : Nat → Bool} (hs : ∀ m W, h m = false → J m W → J (m + 1) W) {n m : Nat} {W : World} (hn : n ≤ m) (hd : ∀ k, n ≤ k → k < m → h k = false) (hJ : J n W) : J m W := by
 induction m with
 | zero => obtain rfl : n = 0 := by omega
           exact hJ
 | succ m ih =>
   by_cases he : n = m + 1
   · subst he; exact hJ
   · exact hs m W (hd m (by omega) (by omega)) (ih (by omega) (fun k h1 h2 => hd k h1 (by omega)))
def PtsC (w0 : World) (gf bs : Nat) (sl : Obj) (zs : List Int) : Prop := ∀ (n : Nat), 1 ≤ n → ∀ (l : Nat) (J Stop : Nat → World → Prop) (W0 : World), W0.heap[bs]? = some sl → Below w0.heap.size w0 W0 →
 (∀ i (hi : i < zs.length) W (ix : Int), J i W → Below w0.heap.size w0 W → W.heap[bs]? = some sl → YieldAt Fence.wide (n - 1) Tryz.prog l #[.int .i64 ix, .int .i32 zs[i]] W fun e W' => (e = .returned (.bool true) ∧ Below w0.heap.size w0 W' ∧ W'.heap[bs]? = some sl ∧ J (i + 1) W') ∨ (e = .returned (.bool false) ∧ Stop i W')) →
 J 0 W0 → CallsIn Fence.wide n Tryz.prog gf #[.func (.yield l) #[] #[], .pointer (some ⟨bs, 0, none⟩)] W0 fun e W' => (∃ v, e = .returned v) ∧ (J zs.length W' ∨ ∃ i, i < zs.length ∧ Stop i W')
theorem pts_all {w0 : World} {ao : Option Addr} {cap : Nat} {xs : List Int} (hx : RdC32 w0 ao xs) (hlen : xs.length ≤ 1000000) (bs : Nat) : PtsC w0 96 bs (.cells #[.slice ao xs.length cap] 53) xs :=
 fun n hn l J Stop W0 hbx hB hY h0 => all1_in n hn w0 ao cap xs hx hlen l bs J Stop W0 hbx hB (fun i hi W h1 h2 h3 => hY i hi W _ h1 h2 h3) h0
set_option maxRecDepth 100000 in
set_option maxHeartbeats 1000000 in
theorem lens_make (h gf bs : Nat) (d : ND) (w : World) : Calls Tryz.prog 60 #[d.v, .func (.func h) #[] #[], .func (.func gf) #[] #[.pointer (some ⟨bs, 0, none⟩)]] w fun x w' => x = .returned (.func (.func 92) #[] #[.pointer (some ⟨w.heap.size + 1, 0, none⟩), .pointer (some ⟨w.heap.size, 0, none⟩), .pointer (some ⟨w.heap.size + 2, 0, none⟩)]) ∧
   w' = ((w.alloc (.cells #[.int .i64 d.k, .int .i64 d.a, .slice d.sp d.sl d.sc, .string d.n, .slice d.kp d.kl d.kc] 26)).alloc (.cells #[.func (.func h) #[] #[]] 105)).alloc (.cells #[.func (.func gf) #[] #[.pointer (some ⟨bs, 0, none⟩)]] 107) := by
 unfold ND.v
 go_enter Tryz.func60, Tryz.ntmps60
 go_wp2
 go_ret
 exact ⟨rfl, rfl⟩
structure LS (w0 : World) (pb m0 s1 Y lb rb lo hi L : Nat) (yv : Obj) (p : Ps) (i : Nat) (rc : Obj) (A : World) : Prop where
 y : A.heap[Y]? = some yv
 len : A.heap[lb]? = some (.cells #[.int .i64 (i : Int)] 3)
 pr : PR w0 A p rb 0 lo hi
 row : Row A rb
 rec_ : A.heap[L + 1]? = some rc
 def_ : A.heap[L]? = some (.deferred (some []))
 no : ∀ k, m0 ≤ k → k < s1 → ¬ Ow pb A k
 no2 : ¬ Ow pb A lb ∧ ¬ Ow pb A L ∧ ¬ Ow pb A (L + 1)
 sz : L + 2 ≤ A.heap.size
structure Geo (pb m0 s1 Y lb rb lo hi L : Nat) : Prop where
 g1 : pb < m0
 g2 : m0 ≤ Y ∧ Y < s1
 g3 : m0 ≤ rb ∧ rb < s1
 g4 : m0 ≤ lo
 g5 : hi ≤ s1
 g6 : rb < lo ∨ hi ≤ rb
 g7 : Y < lo ∧ Y ≠ rb
 g8 : s1 ≤ lb
 g9 : lb < L
section
variable {w0 : World} {pb m0 s1 Y lb rb lo hi L : Nat} {yv : Obj} {p : Ps} {i : Nat} {rc : Obj} {A B : World}
theorem LS.fr {n : Nat} (G : Geo pb m0 s1 Y lb rb lo hi L) (h : LS w0 pb m0 s1 Y lb rb lo hi L yv p i rc A) (f : FrO pb n m0 A B) : LS w0 pb m0 s1 Y lb rb lo hi L yv p i rc B := by
 obtain ⟨g1, g2, g3, g4, g5, g6, g7, g8, g9⟩ := G
 have sz := h.sz
 have k : ∀ k, m0 ≤ k → k < s1 → B.heap[k]? = A.heap[k]? := fun k h1 h2 => f.hi k h1 (by omega) (h.no k h1 h2)
 have hrb := k rb g3.1 g3.2
 obtain ⟨cs, hrow⟩ := h.row
 exact ⟨(k Y g2.1 g2.2).trans h.y, (f.hi lb (by omega) (by omega) h.no2.1).trans h.len, h.pr.keep (fun j _ => cell_blk hrb _) (fun q h1 h2 => k q (by omega) (by omega)), ⟨cs, hrb.trans hrow⟩,
   (f.hi (L + 1) (by omega) (by omega) h.no2.2.2).trans h.rec_, (f.hi L (by omega) (by omega) h.no2.2.1).trans h.def_, fun q h1 h2 ho => h.no q h1 h2 (f.own q (by omega) ho),
   ⟨fun ho => h.no2.1 (f.own lb (by omega) ho), fun ho => h.no2.2.1 (f.own L (by omega) ho), fun ho => h.no2.2.2 (f.own (L + 1) (by omega) ho)⟩, Nat.le_trans sz f.size⟩
theorem LS.kr {p' : Ps} (G : Geo pb m0 s1 Y lb rb lo hi L) (h : LS w0 pb m0 s1 Y lb rb lo hi L yv p i rc A) (f : Kr rb 0 lo hi A B) (hp : PR w0 B p' rb 0 lo hi) : LS w0 pb m0 s1 Y lb rb lo hi L yv p' i rc B := by
 obtain ⟨g1, g2, g3, g4, g5, g6, g7, g8, g9⟩ := G
 have sz := h.sz
 have hpb := f.blk pb (by omega) (by omega) (by omega)
 exact ⟨(f.blk Y (by omega) (by omega) (by omega)).trans h.y, (f.blk lb (by omega) (by omega) (by omega)).trans h.len, hp, f.row rb h.row, (f.blk (L + 1) (by omega) (by omega) (by omega)).trans h.rec_, (f.blk L (by omega) (by omega) (by omega)).trans h.def_,
   fun q h1 h2 ho => h.no q h1 h2 (ho.of hpb), ⟨fun ho => h.no2.1 (ho.of hpb), fun ho => h.no2.2.1 (ho.of hpb), fun ho => h.no2.2.2 (ho.of hpb)⟩, Nat.le_trans sz f.size⟩
theorem LS.put (G : Geo pb m0 s1 Y lb rb lo hi L) (h : LS w0 pb m0 s1 Y lb rb lo hi L yv p i rc A) (rc' : Obj) : LS w0 pb m0 s1 Y lb rb lo hi L yv p i rc' (A.putObj (L + 1) rc') := by
 obtain ⟨g1, g2, g3, g4, g5, g6, g7, g8, g9⟩ := G
 have sz := h.sz
 have k : ∀ q, q ≠ L + 1 → (A.putObj (L + 1) rc').heap[q]? = A.heap[q]? := fun q hq => World.putObj_heap_other hq
 have hpb := k pb (by omega)
 have hrb := k rb (by omega)
 obtain ⟨cs, hrow⟩ := h.row
 exact ⟨(k Y (by omega)).trans h.y, (k lb (by omega)).trans h.len, h.pr.keep (fun j _ => cell_blk hrb _) (fun q h1 h2 => k q (by omega)), ⟨cs, hrb.trans hrow⟩, World.putObj_heap_same (by omega), (k L (by omega)).trans h.def_,
   fun q h1 h2 ho => h.no q h1 h2 (ho.of hpb), ⟨fun ho => h.no2.1 (ho.of hpb), fun ho => h.no2.2.1 (ho.of hpb), fun ho => h.no2.2.2 (ho.of hpb)⟩, by rw [World.putObj_size]; exact sz⟩
theorem LS.more (G : Geo pb m0 s1 Y lb rb lo hi L) (h : LS w0 pb m0 s1 Y lb rb lo hi L yv p i rc A) : LS w0 pb m0 s1 Y lb rb lo hi L yv p (i + 1) rc (A.setCell ⟨lb, 0, none⟩ (.int .i64 ((i : Int) + 1))) := by
 obtain ⟨g1, g2, g3, g4, g5, g6, g7, g8, g9⟩ := G
 have sz := h.sz
 have k : ∀ q, q ≠ lb → (A.setCell ⟨lb, 0, none⟩ (.int .i64 ((i : Int) + 1))).heap[q]? = A.heap[q]? := fun q hq => Below.heap_setCell _ _ _ _ hq
 have hpb := k pb (by omega)
 have hrb := k rb (by omega)
 obtain ⟨cs, hrow⟩ := h.row
 have hl := h.len
 exact ⟨(k Y (by omega)).trans h.y, by simp [World.setCell, Array.getElem?_modify, hl], h.pr.keep (fun j _ => cell_blk hrb _) (fun q h1 h2 => k q (by omega)), ⟨cs, hrb.trans hrow⟩, (k (L + 1) (by omega)).trans h.rec_, (k L (by omega)).trans h.def_,
   fun q h1 h2 ho => h.no q h1 h2 (ho.of hpb), ⟨fun ho => h.no2.1 (ho.of hpb), fun ho => h.no2.2.1 (ho.of hpb), fun ho => h.no2.2.2 (ho.of hpb)⟩, by simp [World.setCell]; exact sz⟩
end
set_option maxRecDepth 100000 in
set_option maxHeartbeats 4000000 in
theorem lens66_in (n : Nat) (hn : 4 ≤ n) (w0 : World) (x : Rx) (d : ND) (zs : List Int) (m0 pb bh be bp bs l : Nat) (sl : Obj)
   (hmk : ∀ W, Below w0.heap.size w0 W → Calls Tryz.prog 61 #[d.v] W fun e W' => ∃ v, e = .returned v ∧ PV w0 W' x.ps v W.heap.size W'.heap.size ∧ Below W.heap.size W W')
   (hpts : PtsC w0 96 bs sl zs) (hzl : zs.length ≤ 1000000) (hm : w0.heap.size ≤ m0) (hpb : pb < m0) (hbp : m0 ≤ bp) (hbs : m0 ≤ bs)
   (J Stop : Nat → World → Prop) (W0 : World) (xh : W0.heap[bh]? = some (.cells #[.func (.func 61) #[] #[]] 105)) (xe : W0.heap[be]? = some (.cells #[.int .i64 d.k, .int .i64 d.a, .slice d.sp d.sl d.sc, .string d.n, .slice d.kp d.kl d.kc] 26)) (xp : W0.heap[bp]? = some (.cells #[.func (.func 96) #[] #[.pointer (some ⟨bs, 0, none⟩)]] 107)) (xs : W0.heap[bs]? = some sl) (hB0 : Below w0.heap.size w0 W0) (hl : l < W0.heap.size) (hm0 : m0 ≤ W0.heap.size)
   (hJ : ∀ m W W', J m W → KpO pb W0.heap.size W W' → J m W') (hS : ∀ m W W', Stop m W → Below W0.heap.size W W' → Stop m W') (hskip : ∀ m W, hit zs x m = false → J m W → J (m + 1) W)
   (hlt : ∀ m W, J m W → ∀ k, Ow pb W k → k < W.heap.size) (hO0 : ∀ k, m0 ≤ k → ¬ Ow pb W0 k)
   (hY : ∀ m, m ≤ zs.length → hit zs x m = true → ∀ W, J m W → W0.heap.size ≤ W.heap.size → Below w0.heap.size w0 W →
     YieldAt Fence.wide (n - 3) Tryz.prog l #[.int .i64 (m : Int)] W fun e W' => (e = .returned (.bool true) ∧ FrO pb w0.heap.size m0 W W' ∧ J (m + 1) W') ∨ (e = .returned (.bool false) ∧ (∀ k, m0 ≤ k → k < W.heap.size → k ≠ l → ¬ Ow pb W k → W'.heap[k]? = W.heap[k]?) ∧ Stop m W'))
   (h0 : J 0 W0) :
   CallsIn Fence.wide n Tryz.prog 92 #[.func (.yield l) #[] #[], .pointer (some ⟨bh, 0, none⟩), .pointer (some ⟨be, 0, none⟩), .pointer (some ⟨bp, 0, none⟩)] W0 fun e W' => (∃ v, e = .returned v) ∧ (J (zs.length + 1) W' ∨ ∃ m, m ≤ zs.length ∧ Stop m W') := by
 have hs0 := hB0.size
 have hbpl : bp < W0.heap.size := (Array.getElem?_eq_some_iff.1 xp).1
 have hbsl : bs < W0.heap.size := (Array.getElem?_eq_some_iff.1 xs).1
 have hbhl : bh < W0.heap.size := (Array.getElem?_eq_some_iff.1 xh).1
 have hbel : be < W0.heap.size := (Array.getElem?_eq_some_iff.1 xe).1
 have ch : W0.cell? ⟨bh, 0, none⟩ = some (.func (.func 61) #[] #[]) := by simp [World.cell?, xh]
 obtain ⟨q0, q1, q2, q3, q4⟩ := cells_five xe
 have aY := al1 W0 (.cells #[.func (.yield l) #[] #[]] 89)
 have nY := heap_alloc_new W0 (.cells #[.func (.yield l) #[] #[]] 89)
 have sY : (W0.alloc (.cells #[.func (.yield l) #[] #[]] 89)).heap.size = W0.heap.size + 1 := by simp
 have hcall := hmk (W0.alloc (.cells #[.func (.yield l) #[] #[]] 89)) (hB0.trans (aY.mono hs0))
 unfold ND.v at hcall
 refine callsIn_of_wp_marks Tryz.func92 rfl trivial ?_ rfl
 simp only [Tryz.ntmps92, List.size_toArray, List.length_cons, List.length_nil, Nat.reduceAdd, Nat.reduceSub, Array.replicate_succ, Array.replicate_zero, List.push_toArray, List.append_toArray, List.nil_append, List.cons_append]
 gi_wp2_with fail
 refine ⟨trivial, (fun h => by cases h), ?_⟩
 refine (callsIn_wide.2 hcall).mono ?_
 rintro e W1 ⟨v, rfl, hpv, hb1⟩
 obtain ⟨k, sp, sl', sc, kp, kl, kc, nu, en, go, rfl, hPR⟩ := hpv
 rw [sY] at hPR hb1
 have s1 := hb1.size
 rw [sY] at s1
 have bb := aY.trans (hb1.mono (Nat.le_succ _))
 unfold six
 have aR := al1 W1 (.cells #[.int .i64 k, .slice sp sl' sc, .slice kp kl kc, .bool nu, .bool en, .bool go] 147)
 have nR := heap_alloc_new W1 (.cells #[.int .i64 k, .slice sp sl' sc, .slice kp kl kc, .bool nu, .bool en, .bool go] 147)
 have sR : (W1.alloc (.cells #[.int .i64 k, .slice sp sl' sc, .slice kp kl kc, .bool nu, .bool en, .bool go] 147)).heap.size = W1.heap.size + 1 := by simp
 have prR := hPR (W1.alloc (.cells #[.int .i64 k, .slice sp sl' sc, .slice kp kl kc, .bool nu, .bool en, .bool go] 147)) W1.heap.size 0 (by
   obtain ⟨c0, c1, c2, c3, c4, c5⟩ := cells_six nR
   exact ⟨c0, c1, c2, c3, c4, c5⟩) (fun i _ hi => aR.block i hi)
 have hnu : nu = x.nul := by
   have h1 := prR.tell.1
   rw [(E.Rx.ps_ok x).2.2.2] at h1
   have h2 := (cells_six nR).2.2.2.1
   rw [Nat.zero_add] at h1
   rw [h1] at h2
   simpa using h2.symm
 clear hcall ch q0 q1 q2 q3 q4 hPR hmk xh xe
 have oR : ∀ q, m0 ≤ q → ¬ Ow pb (W1.alloc (.cells #[.int .i64 k, .slice sp sl' sc, .slice kp kl kc, .bool nu, .bool en, .bool go] 147)) q := fun q hq ho => hO0 q hq (ho.of ((aR.block pb (by omega)).trans (bb.block pb (by omega))))
 have bR : Below W0.heap.size W0 (W1.alloc (.cells #[.int .i64 k, .slice sp sl' sc, .slice kp kl kc, .bool nu, .bool en, .bool go] 147)) := bb.trans (aR.mono (by omega))
 have yR := ((hb1.trans (aR.mono s1)).block W0.heap.size (by omega)).trans nY
 subst hnu
 cases hxn : x.nul with
 | true =>
   rw [hxn] at aR nR sR prR oR bR yR
   obtain ⟨R, hR0⟩ : ∃ R, W1.alloc (.cells #[.int .i64 k, .slice sp sl' sc, .slice kp kl kc, .bool true, .bool en, .bool go] 147) = R := ⟨_, rfl⟩
   have HRW := hide hR0
   rw [hR0] at aR nR sR prR oR bR yR
   have JR : J 0 R := hJ _ _ _ h0 ⟨bR, fun q hq ho => bR.block q (hlt _ _ h0 q ho)⟩
   obtain ⟨fn, tmps, assign, body, hy, hR⟩ := yield_anyN (n - 1) (hY 0 (by omega) (by unfold hit; rw [if_pos rfl]; exact hxn) R JR (by omega) (hB0.trans (bR.mono hs0)))
   have hy' : (Instr.yield l #[.int .i64 0]).run Tryz.prog (W1.alloc (.cells #[.int .i64 k, .slice sp sl' sc, .slice kp kl kc, .bool true, .bool en, .bool go] 147)) = .ok (.round l fn tmps assign body) (W1.alloc (.cells #[.int .i64 k, .slice sp sl' sc, .slice kp kl kc, .bool true, .bool en, .bool go] 147)) := by rw [HRW.out]; exact hy
   have cY : (W1.alloc (.cells #[.int .i64 k, .slice sp sl' sc, .slice kp kl kc, .bool true, .bool en, .bool go] 147)).cell? ⟨W0.heap.size, 0, none⟩ = some (.func (.yield l) #[] #[]) := by rw [HRW.out]; simp [World.cell?, yR]
   clear hy hR0
   gi_wp2
   refine ⟨(fun h => by cases h), ?_⟩
   rw [HRW.out]
   refine hR.mono ?_
   rintro e W2 (⟨rfl, hfr, J2⟩ | ⟨rfl, _, hSt⟩)
   · have z2 := hfr.size
     have kf : ∀ q, m0 ≤ q → q < R.heap.size → W2.heap[q]? = R.heap[q]? := fun q h1 h2 => hfr.hi q h1 h2 (oR q h1)
     have xp2 := (kf bp hbp (by omega)).trans ((bR.block bp hbpl).trans xp)
     have xs2 := (kf bs hbs (by omega)).trans ((bR.block bs hbsl).trans xs)
     have y2 := (kf W0.heap.size (by omega) (by omega)).trans yR
     have hrb2 := kf W1.heap.size (by omega) (by omega)
     have pr2 : PR w0 W2 x.ps W1.heap.size 0 (W0.heap.size + 1) W1.heap.size := prR.keep (fun j _ => cell_blk hrb2 _) (fun q h1 h2 => kf q (by omega) (by omega))
     have row2 : Row W2 W1.heap.size := ⟨_, hrb2.trans nR⟩
     have no2 : ∀ q, m0 ≤ q → q < R.heap.size → ¬ Ow pb W2 q := fun q h1 h2 ho => oR q h1 (hfr.own q h2 ho)
     have B2 : Below w0.heap.size w0 W2 := (hB0.trans (bR.mono hs0)).trans hfr.below
     have hRW0 : W0.heap.size + 2 ≤ R.heap.size := by omega
     have hRW1 : W1.heap.size + 1 ≤ R.heap.size := by omega
     clear sR sY
     clear hR hy' cY hfr kf hrb2 prR yR nR oR JR HRW aY nY aR bR hb1 bb hbhl hbel
     have cp : W2.cell? ⟨bp, 0, none⟩ = some (.func (.func 96) #[] #[.pointer (some ⟨bs, 0, none⟩)]) := by simp [World.cell?, xp2]
     have hbpl : bp < W2.heap.size := by omega
     gi_wp2
     have ax := al1 W2 (.cells #[.int .i64 0] 3)
     have nx0 := heap_alloc_new W2 (.cells #[.int .i64 0] 3)
     have sx : (W2.alloc (.cells #[.int .i64 0] 3)).heap.size = W2.heap.size + 1 := by simp
     obtain ⟨X, hX⟩ : ∃ X, W2.alloc (.cells #[.int .i64 0] 3) = X := ⟨_, rfl⟩
     rw [hX] at ax nx0 sx ⊢
     clear hX cp
     refine enter3 (gf := 96) (lb := #[.pointer (some ⟨bs, 0, none⟩)]) rfl (enters_of Tryz.func96 (by kernel_rfl) rfl) ?_
     intro r We hr hrec hdef hszE hbE
     rw [sx] at hrec hdef hszE ⊢
     have bE := nx ax hbE
     have sE : We.heap.size = W2.heap.size + 3 := by omega
     have G : Geo pb m0 R.heap.size W0.heap.size W2.heap.size W1.heap.size (W0.heap.size + 1) W1.heap.size (W2.heap.size + 1) := ⟨hpb, by omega, by omega, by omega, by omega, by omega, by omega, by omega, by omega⟩
     have JE : J 1 We := hJ _ _ _ J2 (KpO.of bE (by omega))
     have hpbE : We.heap[pb]? = W2.heap[pb]? := bE.block pb (by omega)
     have hfre : ∀ k, W2.heap.size ≤ k → ¬ Ow pb We k := fun k hk ho => by
       have := hlt _ _ J2 k (ho.of hpbE)
       omega
     have LE : LS w0 pb m0 R.heap.size W0.heap.size W2.heap.size W1.heap.size (W0.heap.size + 1) W1.heap.size (W2.heap.size + 1) (.cells #[.func (.yield l) #[] #[]] 89) x.ps 0 (.loop r) We := by
       obtain ⟨cs, hrow⟩ := row2
       have hrb := bE.block W1.heap.size (by omega)
       exact ⟨(bE.block _ (by omega)).trans y2, (hbE.block _ (by omega)).trans nx0, pr2.keep (fun j _ => cell_blk hrb _) (fun q h1 h2 => bE.block q (by omega)), ⟨cs, hrb.trans hrow⟩, hrec.out, hdef.out, fun k h1 h2 ho => no2 k h1 h2 (ho.of hpbE), ⟨hfre _ (by omega), hfre _ (by omega), hfre _ (by omega)⟩, by omega⟩
     have BE : Below w0.heap.size w0 We := B2.trans (bE.mono (by omega))
     have xsE := (bE.block bs (by omega)).trans xs2
     clear hrec hdef hbE nx0 ax y2 pr2 row2 no2 xp2 xs2 bE hfre hpbE
     refine (hpts (n - 1) (by omega) (W2.heap.size + 1 + 1)
       (fun i A => J (i + 1) A ∧ LS w0 pb m0 R.heap.size W0.heap.size W2.heap.size W1.heap.size (W0.heap.size + 1) W1.heap.size (W2.heap.size + 1) (.cells #[.func (.yield l) #[] #[]] 89) (E.run zs x.ps i) i (.loop r) A)
       (fun _ A => ((J (zs.length + 1) A ∧ ¬ Ow pb A (W2.heap.size + 1) ∧ ¬ Ow pb A (W2.heap.size + 1 + 1)) ∨ ∃ m, m ≤ zs.length ∧ Stop m A) ∧ (∃ rd : Loop, rd.state = .done ∧ rd.pending = some .ret ∧ A.heap[W2.heap.size + 1 + 1]? = some (.loop rd)) ∧ A.heap[W2.heap.size + 1]? = some (.deferred (some []))) We xsE BE ?round ⟨JE, LE⟩).mono ?_
     case round =>
       rintro i hi A ix ⟨jJ, jL⟩ hBA hbA
       have szA := jL.sz
       refine yield3 hr jL.rec_ rfl ?_
       gi_wp2
       refine ⟨jL.rec_, ?_⟩
       intro rb'
       have L1 := jL.put G (.loop rb')
       have k1 : KpO pb W0.heap.size A (A.putObj (W2.heap.size + 1 + 1) (.loop rb')) := (KpO.refl _ _ _).put (by omega) jL.no2.2.2 _
       have J1 := hJ _ _ _ jJ k1
       have b1 : Below w0.heap.size w0 (A.putObj (W2.heap.size + 1 + 1) (.loop rb')) := hBA.trans (k1.below.mono (by omega))
       have xs1 : (A.putObj (W2.heap.size + 1 + 1) (.loop rb')).heap[bs]? = some sl := (World.putObj_heap_other (by omega)).trans hbA
       obtain ⟨A1, hA1⟩ : ∃ A1, A.putObj (W2.heap.size + 1 + 1) (.loop rb') = A1 := ⟨_, rfl⟩
       rw [hA1] at L1 J1 b1 xs1 ⊢
       clear hA1 k1 jJ jL hbA
       have s1 := L1.sz
       obtain ⟨fl, HFL⟩ : ∃ fl, Hid (decide (i = 0) = fl) := ⟨_, hide rfl⟩
       have hfl : ((i : Int) == 0) = fl := by rw [← HFL.out]; rw [Bool.eq_iff_iff]; simp
       have hrd := readP_any (E.run zs x.ps i) w0 A1 W1.heap.size 0 (W0.heap.size + 1) W1.heap.size zs[i] fl L1.pr L1.row (by omega) (by omega) b1 (by omega) (by omega)
       have HST : Hid ((E.run zs x.ps i).read zs[i] fl = E.run zs x.ps (i + 1)) := hide (by
         rw [E.Ps.read_eq (E.run_ok zs x i), E.run, List.getD_eq_getElem?_getD, List.getElem?_eq_getElem hi, ← HFL.out]
         rfl)
       have clen : A1.cell? ⟨W2.heap.size, 0, none⟩ = some (.int .i64 (i : Int)) := by simp [World.cell?, L1.len]
       generalize hzi : zs[i] = zi at *
       gi_wp2_with fail
       refine ⟨trivial, (fun h => by cases h), ?_⟩
       refine (callsIn_wide.2 hrd).mono ?_
       rintro e W3 ⟨rfl, hpr3, hk3⟩
       rw [HST.out] at hpr3
       have L3 := L1.kr G hk3 hpr3
       have k3 : KpO pb W0.heap.size A1 W3 := KpO.kr hk3 (by omega) (by omega) (by omega) (L1.no _ (by omega) (by omega)) (fun k h1 h2 => L1.no k (by omega) (by omega))
       have J3 := hJ _ _ _ J1 k3
       have b3 : Below w0.heap.size w0 W3 := b1.trans (k3.below.mono (by omega))
       have xs3 : W3.heap[bs]? = some sl := (k3.below.block bs (by omega)).trans xs1
       have L4 := L3.more G
       have k4 : KpO pb W0.heap.size W3 (W3.setCell ⟨W2.heap.size, 0, none⟩ (.int .i64 ((i : Int) + 1))) := (KpO.refl _ _ _).set (by omega) L3.no2.1 _
       have J4 := hJ _ _ _ J3 k4
       have b4 : Below w0.heap.size w0 (W3.setCell ⟨W2.heap.size, 0, none⟩ (.int .i64 ((i : Int) + 1))) := b3.trans (k4.below.mono (by omega))
       have xs4 : (W3.setCell ⟨W2.heap.size, 0, none⟩ (.int .i64 ((i : Int) + 1))).heap[bs]? = some sl := (k4.below.block bs (by omega)).trans xs3
       have c3 : W3.cell? ⟨W2.heap.size, 0, none⟩ = some (.int .i64 (i : Int)) := by simp [World.cell?, L3.len]
       have f3 : W3.frozen? ⟨W2.heap.size, 0, none⟩ = false := by simp [World.frozen?, L3.len]
       obtain ⟨W4, hW4⟩ : ∃ W4, W3.setCell ⟨W2.heap.size, 0, none⟩ (.int .i64 ((i : Int) + 1)) = W4 := ⟨_, rfl⟩
       rw [hW4] at L4 J4 b4 xs4
       have e4 : W4.cell? ⟨W2.heap.size, 0, none⟩ = some (.int .i64 ((i : Int) + 1)) := by simp [World.cell?, L4.len]
       obtain ⟨_, t4, t5⟩ := L4.pr.tell
       simp only [Nat.zero_add] at t4 t5
       have ty4 : W4.cell? ⟨W0.heap.size, 0, none⟩ = some (.func (.yield l) #[] #[]) := by simp [World.cell?, L4.y]
       have s4 := L4.sz
       have HJ4 := hide J4
       have HB4 := hide b4
       have HX4 := hide xs4
       have HL4 := hide L4
       have hdead : Hid ((E.run zs x.ps (i + 1)).go = false → ∀ W, J (i + 2) W → J (zs.length + 1) W) := hide (fun hg W hj => skips hskip (by omega) (fun k h1 h2 => hit_dead zs x (by omega) (show i + 1 ≤ k by omega) hg) hj)
       have hhit : Hid (hit zs x (i + 1) = (E.run zs x.ps (i + 1)).en) := hide (by unfold hit; rw [if_neg (by omega)])
       have HSK := hide hskip
       have HYY := hide hY
       have hngo : Hid ((E.run zs x.ps (i + 1)).en = true → (E.run zs x.ps (i + 1)).go = true) := hide (fun he => by
         cases hg : (E.run zs x.ps (i + 1)).go with
         | true => rfl
         | false => rw [(E.run_ok zs x (i + 1)).en_go hg] at he; cases he)
       clear hrd clen L1 J1 b1 xs1 L3 J3 b3 xs3 k3 k4 hk3 hpr3 J4 b4 xs4 L4 hfl HST hskip hY hlt
       have fin : ∀ (W5 : World), LS w0 pb m0 R.heap.size W0.heap.size W2.heap.size W1.heap.size (W0.heap.size + 1) W1.heap.size (W2.heap.size + 1) (.cells #[.func (.yield l) #[] #[]] 89) (E.run zs x.ps (i + 1)) (i + 1) (.loop rb') W5 → J (i + 2) W5 → Below w0.heap.size w0 W5 → W5.heap[bs]? = some sl →
           W5.heap[W2.heap.size + 1 + 1]? = some (.loop rb') ∧ Below w0.heap.size w0 (W5.putObj (W2.heap.size + 1 + 1) (.loop r)) ∧ (W5.putObj (W2.heap.size + 1 + 1) (.loop r)).heap[bs]? = some sl ∧ J (i + 1 + 1) (W5.putObj (W2.heap.size + 1 + 1) (.loop r)) ∧ LS w0 pb m0 R.heap.size W0.heap.size W2.heap.size W1.heap.size (W0.heap.size + 1) W1.heap.size (W2.heap.size + 1) (.cells #[.func (.yield l) #[] #[]] 89) (E.run zs x.ps (i + 1)) (i + 1) (.loop r) (W5.putObj (W2.heap.size + 1 + 1) (.loop r)) := by
         intro W5 q1 q2 q3 q4
         have kk : KpO pb W0.heap.size W5 (W5.putObj (W2.heap.size + 1 + 1) (.loop r)) := (KpO.refl _ _ _).put (by omega) q1.no2.2.2 _
         exact ⟨q1.rec_, q3.trans (kk.below.mono (by omega)), (World.putObj_heap_other (by omega)).trans q4, hJ _ _ _ q2 kk, q1.put G _⟩
       have FIN := hide fin
       clear fin
       cases hen : (E.run zs x.ps (i + 1)).en with
       | true =>
         rw [hen] at t4
         have hgo := hngo.out hen
         rw [hgo] at t5
         obtain ⟨fn, tmps, assign, body, hy, hR⟩ := yield_anyN (n - 1 - 1 - 1) (HYY.out (i + 1) (by omega) (by rw [hhit.out]; exact hen) W4 HJ4.out (by omega) HB4.out)
         have ecast : (((i + 1 : Nat) : Int)) = (i : Int) + 1 := by omega
         rw [ecast] at hy
         gi_wp2
         refine ⟨(fun h => by cases h), RoundIn.mono (F := Fence.wide.inRound (W2.heap.size + 1 + 1)) hR ?_⟩
         rintro e W5 (⟨rfl, hfr, hJ5⟩ | ⟨rfl, hfx, hS5⟩)
         · have L5 := HL4.out.fr G hfr
           have b5 := HB4.out.trans hfr.below
           have xs5 : W5.heap[bs]? = some sl := (hfr.hi bs (by omega) (by omega) (HL4.out.no bs (by omega) (by omega))).trans HX4.out
           have u5 := L5.pr.tell.2.2
           rw [hgo] at u5
           simp only [Nat.zero_add] at u5
           obtain ⟨f1, f2, f3', f4, f5⟩ := FIN.out W5 L5 hJ5 b5 xs5
           clear hy hR hfr t4 t5 e4 ty4 L5
           gi_wp2
           exact ⟨f1, .inl ⟨rfl, f2, f3', f4, f5⟩⟩
         · have r5 := (hfx (W2.heap.size + 1 + 1) (by omega) (by omega) (by omega) HL4.out.no2.2.2).trans HL4.out.rec_
           have d5 := (hfx (W2.heap.size + 1) (by omega) (by omega) (by omega) HL4.out.no2.2.1).trans HL4.out.def_
           have HS5 := hide hS5
           have R5 := hide r5
           have D5 := hide d5
           clear hy hR hfx hS5 t4 t5 e4 ty4 r5 d5
           gi_wp2
           refine ⟨R5.out, fun rd h1 h2 => .inr ⟨rfl, .inr ⟨i + 1, by omega, hS _ _ _ HS5.out (below_put _ _ (by omega))⟩, ⟨rd, h1, h2, World.putObj_heap_same (Array.getElem?_eq_some_iff.1 R5.out).1⟩, (World.putObj_heap_other (by omega)).trans D5.out⟩⟩
       | false =>
         rw [hen] at t4
         have J5 : J (i + 2) W4 := HSK.out _ _ (by rw [hhit.out]; exact hen) HJ4.out
         cases hgo : (E.run zs x.ps (i + 1)).go with
         | true =>
           rw [hgo] at t5
           obtain ⟨f1, f2, f3', f4, f5⟩ := FIN.out W4 HL4.out J5 HB4.out HX4.out
           gi_wp2
           refine ⟨(fun _ h => by cases h), ?_⟩
           gi_wp2
           exact ⟨f1, .inl ⟨rfl, f2, f3', f4, f5⟩⟩
         | false =>
           rw [hgo] at t5
           have J6 := hdead.out hgo _ J5
           have r5 := HL4.out.rec_
           have d5 := HL4.out.def_
           have n5 := HL4.out.no2.2
           gi_wp2
           refine ⟨(fun _ h => by cases h), ?_⟩
           gi_wp2
           refine ⟨r5, fun rd h1 h2 => .inr ⟨rfl, .inl ⟨hJ _ _ _ J6 ((KpO.refl _ _ _).put (by omega) n5.2 _), fun ho => n5.1 (ho.of (World.putObj_heap_other (by omega))), fun ho => n5.2 (ho.of (World.putObj_heap_other (by omega)))⟩, ⟨rd, h1, h2, World.putObj_heap_same (Array.getElem?_eq_some_iff.1 r5).1⟩, (World.putObj_heap_other (by omega)).trans d5⟩⟩
     rintro e W' ⟨hv, h⟩
     refine ⟨hv, ?_⟩
     rcases h with ⟨j1, jL⟩ | ⟨i, hi, hst, ⟨rd, hd1, hd2, hd3⟩, j4⟩
     · refine .inl ⟨jL.rec_, fun r' => ?_⟩
       have k4 := (World.putObj_heap_other (w := W') (o := .loop r') (show W2.heap.size + 1 ≠ W2.heap.size + 1 + 1 by omega)).trans jL.def_
       have kk : KpO pb W0.heap.size W' (W'.putObj (W2.heap.size + 1 + 1) (.loop r')) := (KpO.refl _ _ _).put (by omega) jL.no2.2.2 _
       have kJ := hJ _ _ _ j1 kk
       have kn : ¬ Ow pb (W'.putObj (W2.heap.size + 1 + 1) (.loop r')) (W2.heap.size + 1) := fun ho => jL.no2.2.1 (ho.of (kk.below.block pb (by omega)))
       generalize W'.putObj (W2.heap.size + 1 + 1) (.loop r') = W9 at *
       clear jL
       gi_wp2
       refine ⟨by simp, .inl ⟨_, _, rfl, run_takeDeferred k4, ?_⟩⟩
       exact ⟨_, results_none rfl _ _ _, ⟨_, rfl⟩, .inl (hJ _ _ _ kJ ((KpO.refl _ _ _).put (by omega) kn _))⟩
     · refine .inr ⟨rd, hd1, hd2, hd3, fun r' => ?_⟩
       have k4 := (World.putObj_heap_other (w := W') (o := .loop r') (show W2.heap.size + 1 ≠ W2.heap.size + 1 + 1 by omega)).trans j4
       have hpbk : (W'.putObj (W2.heap.size + 1 + 1) (.loop r')).heap[pb]? = W'.heap[pb]? := World.putObj_heap_other (by omega)
       have kS : (J (zs.length + 1) (W'.putObj (W2.heap.size + 1 + 1) (.loop r')) ∧ ¬ Ow pb (W'.putObj (W2.heap.size + 1 + 1) (.loop r')) (W2.heap.size + 1)) ∨ ∃ m, m ≤ zs.length ∧ Stop m (W'.putObj (W2.heap.size + 1 + 1) (.loop r')) := by
         rcases hst with ⟨p1, p2, p3⟩ | ⟨m, p1, p2⟩
         · exact .inl ⟨hJ _ _ _ p1 ((KpO.refl _ _ _).put (by omega) p3 _), fun ho => p2 (ho.of hpbk)⟩
         · exact .inr ⟨m, p1, hS _ _ _ p2 (below_put _ _ (by omega))⟩
       clear hst hpbk
       generalize W'.putObj (W2.heap.size + 1 + 1) (.loop r') = W9 at *
       gi_wp2
       refine ⟨by simp, .inl ⟨_, _, rfl, run_takeDeferred k4, ?_⟩⟩
       refine ⟨_, results_none rfl _ _ _, ⟨_, rfl⟩, ?_⟩
       rcases kS with ⟨p1, p2⟩ | ⟨m, p1, p2⟩
       · exact .inl (hJ _ _ _ p1 ((KpO.refl _ _ _).put (by omega) p2 _))
       · exact .inr ⟨m, p1, hS _ _ _ p2 (below_put _ _ (by omega))⟩
   · clear hR hy' cY
     gi_wp2
     exact ⟨_, results_none rfl _ _ _, ⟨_, rfl⟩, .inr ⟨0, by omega, hSt⟩⟩
 | false =>
   rw [hxn] at aR nR sR prR oR bR yR
   obtain ⟨R, hR0⟩ : ∃ R, W1.alloc (.cells #[.int .i64 k, .slice sp sl' sc, .slice kp kl kc, .bool false, .bool en, .bool go] 147) = R := ⟨_, rfl⟩
   have HRW := hide hR0
   rw [hR0] at aR nR sR prR oR bR yR
   have JR : J 0 R := hJ _ _ _ h0 ⟨bR, fun q hq ho => bR.block q (hlt _ _ h0 q ho)⟩
   have J2 : J 1 R := hskip _ _ (by unfold hit; rw [if_pos rfl]; exact hxn) JR
   have z2 : R.heap.size ≤ R.heap.size := Nat.le_refl _
   have xp2 := (bR.block bp hbpl).trans xp
   have xs2 := (bR.block bs hbsl).trans xs
   have y2 := yR
   have pr2 := prR
   have row2 : Row R W1.heap.size := ⟨_, nR⟩
   have no2 : ∀ q, m0 ≤ q → q < R.heap.size → ¬ Ow pb R q := fun q h1 _ => oR q h1
   have B2 : Below w0.heap.size w0 R := hB0.trans (bR.mono hs0)
   have hRW0 : W0.heap.size + 2 ≤ R.heap.size := by omega
   have hRW1 : W1.heap.size + 1 ≤ R.heap.size := by omega
   clear sR sY
   clear prR yR nR oR JR aY nY aR bR hb1 bb hbhl hbel hR0
   gi_wp2
   refine ⟨(fun _ h => by cases h), ?_⟩
   rw [HRW.out]
   have cp : R.cell? ⟨bp, 0, none⟩ = some (.func (.func 96) #[] #[.pointer (some ⟨bs, 0, none⟩)]) := by simp [World.cell?, xp2]
   have hbpl : bp < R.heap.size := by omega
   gi_wp2
   have ax := al1 R (.cells #[.int .i64 0] 3)
   have nx0 := heap_alloc_new R (.cells #[.int .i64 0] 3)
   have sx : (R.alloc (.cells #[.int .i64 0] 3)).heap.size = R.heap.size + 1 := by simp
   obtain ⟨X, hX⟩ : ∃ X, R.alloc (.cells #[.int .i64 0] 3) = X := ⟨_, rfl⟩
   rw [hX] at ax nx0 sx ⊢
   clear hX cp
   refine enter3 (gf := 96) (lb := #[.pointer (some ⟨bs, 0, none⟩)]) rfl (enters_of Tryz.func96 (by kernel_rfl) rfl) ?_
   intro r We hr hrec hdef hszE hbE
   rw [sx] at hrec hdef hszE ⊢
   have bE := nx ax hbE
   have sE : We.heap.size = R.heap.size + 3 := by omega
   have G : Geo pb m0 R.heap.size W0.heap.size R.heap.size W1.heap.size (W0.heap.size + 1) W1.heap.size (R.heap.size + 1) := ⟨hpb, by omega, by omega, by omega, by omega, by omega, by omega, by omega, by omega⟩
   have JE : J 1 We := hJ _ _ _ J2 (KpO.of bE (by omega))
   have hpbE : We.heap[pb]? = R.heap[pb]? := bE.block pb (by omega)
   have hfre : ∀ k, R.heap.size ≤ k → ¬ Ow pb We k := fun k hk ho => by
     have := hlt _ _ J2 k (ho.of hpbE)
     omega
   have LE : LS w0 pb m0 R.heap.size W0.heap.size R.heap.size W1.heap.size (W0.heap.size + 1) W1.heap.size (R.heap.size + 1) (.cells #[.func (.yield l) #[] #[]] 89) x.ps 0 (.loop r) We := by
     obtain ⟨cs, hrow⟩ := row2
     have hrb := bE.block W1.heap.size (by omega)
     exact ⟨(bE.block _ (by omega)).trans y2, (hbE.block _ (by omega)).trans nx0, pr2.keep (fun j _ => cell_blk hrb _) (fun q h1 h2 => bE.block q (by omega)), ⟨cs, hrb.trans hrow⟩, hrec.out, hdef.out, fun k h1 h2 ho => no2 k h1 h2 (ho.of hpbE), ⟨hfre _ (by omega), hfre _ (by omega), hfre _ (by omega)⟩, by omega⟩
   have BE : Below w0.heap.size w0 We := B2.trans (bE.mono (by omega))
   have xsE := (bE.block bs (by omega)).trans xs2
   clear hrec hdef hbE nx0 ax y2 pr2 row2 no2 xp2 xs2 bE hfre hpbE
   refine (hpts (n - 1) (by omega) (R.heap.size + 1 + 1)
     (fun i A => J (i + 1) A ∧ LS w0 pb m0 R.heap.size W0.heap.size R.heap.size W1.heap.size (W0.heap.size + 1) W1.heap.size (R.heap.size + 1) (.cells #[.func (.yield l) #[] #[]] 89) (E.run zs x.ps i) i (.loop r) A)
     (fun _ A => ((J (zs.length + 1) A ∧ ¬ Ow pb A (R.heap.size + 1) ∧ ¬ Ow pb A (R.heap.size + 1 + 1)) ∨ ∃ m, m ≤ zs.length ∧ Stop m A) ∧ (∃ rd : Loop, rd.state = .done ∧ rd.pending = some .ret ∧ A.heap[R.heap.size + 1 + 1]? = some (.loop rd)) ∧ A.heap[R.heap.size + 1]? = some (.deferred (some []))) We xsE BE ?round ⟨JE, LE⟩).mono ?_
   case round =>
     rintro i hi A ix ⟨jJ, jL⟩ hBA hbA
     have szA := jL.sz
     refine yield3 hr jL.rec_ rfl ?_
     gi_wp2
     refine ⟨jL.rec_, ?_⟩
     intro rb'
     have L1 := jL.put G (.loop rb')
     have k1 : KpO pb W0.heap.size A (A.putObj (R.heap.size + 1 + 1) (.loop rb')) := (KpO.refl _ _ _).put (by omega) jL.no2.2.2 _
     have J1 := hJ _ _ _ jJ k1
     have b1 : Below w0.heap.size w0 (A.putObj (R.heap.size + 1 + 1) (.loop rb')) := hBA.trans (k1.below.mono (by omega))
     have xs1 : (A.putObj (R.heap.size + 1 + 1) (.loop rb')).heap[bs]? = some sl := (World.putObj_heap_other (by omega)).trans hbA
     obtain ⟨A1, hA1⟩ : ∃ A1, A.putObj (R.heap.size + 1 + 1) (.loop rb') = A1 := ⟨_, rfl⟩
     rw [hA1] at L1 J1 b1 xs1 ⊢
     clear hA1 k1 jJ jL hbA
     have s1 := L1.sz
     obtain ⟨fl, HFL⟩ : ∃ fl, Hid (decide (i = 0) = fl) := ⟨_, hide rfl⟩
     have hfl : ((i : Int) == 0) = fl := by rw [← HFL.out]; rw [Bool.eq_iff_iff]; simp
     have hrd := readP_any (E.run zs x.ps i) w0 A1 W1.heap.size 0 (W0.heap.size + 1) W1.heap.size zs[i] fl L1.pr L1.row (by omega) (by omega) b1 (by omega) (by omega)
     have HST : Hid ((E.run zs x.ps i).read zs[i] fl = E.run zs x.ps (i + 1)) := hide (by
       rw [E.Ps.read_eq (E.run_ok zs x i), E.run, List.getD_eq_getElem?_getD, List.getElem?_eq_getElem hi, ← HFL.out]
       rfl)
     have clen : A1.cell? ⟨R.heap.size, 0, none⟩ = some (.int .i64 (i : Int)) := by simp [World.cell?, L1.len]
     generalize hzi : zs[i] = zi at *
     gi_wp2_with fail
     refine ⟨trivial, (fun h => by cases h), ?_⟩
     refine (callsIn_wide.2 hrd).mono ?_
     rintro e W3 ⟨rfl, hpr3, hk3⟩
     rw [HST.out] at hpr3
     have L3 := L1.kr G hk3 hpr3
     have k3 : KpO pb W0.heap.size A1 W3 := KpO.kr hk3 (by omega) (by omega) (by omega) (L1.no _ (by omega) (by omega)) (fun k h1 h2 => L1.no k (by omega) (by omega))
     have J3 := hJ _ _ _ J1 k3
     have b3 : Below w0.heap.size w0 W3 := b1.trans (k3.below.mono (by omega))
     have xs3 : W3.heap[bs]? = some sl := (k3.below.block bs (by omega)).trans xs1
     have L4 := L3.more G
     have k4 : KpO pb W0.heap.size W3 (W3.setCell ⟨R.heap.size, 0, none⟩ (.int .i64 ((i : Int) + 1))) := (KpO.refl _ _ _).set (by omega) L3.no2.1 _
     have J4 := hJ _ _ _ J3 k4
     have b4 : Below w0.heap.size w0 (W3.setCell ⟨R.heap.size, 0, none⟩ (.int .i64 ((i : Int) + 1))) := b3.trans (k4.below.mono (by omega))
     have xs4 : (W3.setCell ⟨R.heap.size, 0, none⟩ (.int .i64 ((i : Int) + 1))).heap[bs]? = some sl := (k4.below.block bs (by omega)).trans xs3
     have c3 : W3.cell? ⟨R.heap.size, 0, none⟩ = some (.int .i64 (i : Int)) := by simp [World.cell?, L3.len]
     have f3 : W3.frozen? ⟨R.heap.size, 0, none⟩ = false := by simp [World.frozen?, L3.len]
     obtain ⟨W4, hW4⟩ : ∃ W4, W3.setCell ⟨R.heap.size, 0, none⟩ (.int .i64 ((i : Int) + 1)) = W4 := ⟨_, rfl⟩
     rw [hW4] at L4 J4 b4 xs4
     have e4 : W4.cell? ⟨R.heap.size, 0, none⟩ = some (.int .i64 ((i : Int) + 1)) := by simp [World.cell?, L4.len]
     obtain ⟨_, t4, t5⟩ := L4.pr.tell
     simp only [Nat.zero_add] at t4 t5
     have ty4 : W4.cell? ⟨W0.heap.size, 0, none⟩ = some (.func (.yield l) #[] #[]) := by simp [World.cell?, L4.y]
     have s4 := L4.sz
     have HJ4 := hide J4
     have HB4 := hide b4
     have HX4 := hide xs4
     have HL4 := hide L4
     have hdead : Hid ((E.run zs x.ps (i + 1)).go = false → ∀ W, J (i + 2) W → J (zs.length + 1) W) := hide (fun hg W hj => skips hskip (by omega) (fun k h1 h2 => hit_dead zs x (by omega) (show i + 1 ≤ k by omega) hg) hj)
     have hhit : Hid (hit zs x (i + 1) = (E.run zs x.ps (i + 1)).en) := hide (by unfold hit; rw [if_neg (by omega)])
     have HSK := hide hskip
     have HYY := hide hY
     have hngo : Hid ((E.run zs x.ps (i + 1)).en = true → (E.run zs x.ps (i + 1)).go = true) := hide (fun he => by
       cases hg : (E.run zs x.ps (i + 1)).go with
       | true => rfl
       | false => rw [(E.run_ok zs x (i + 1)).en_go hg] at he; cases he)
     clear hrd clen L1 J1 b1 xs1 L3 J3 b3 xs3 k3 k4 hk3 hpr3 J4 b4 xs4 L4 hfl HST hskip hY hlt
     have fin : ∀ (W5 : World), LS w0 pb m0 R.heap.size W0.heap.size R.heap.size W1.heap.size (W0.heap.size + 1) W1.heap.size (R.heap.size + 1) (.cells #[.func (.yield l) #[] #[]] 89) (E.run zs x.ps (i + 1)) (i + 1) (.loop rb') W5 → J (i + 2) W5 → Below w0.heap.size w0 W5 → W5.heap[bs]? = some sl →
         W5.heap[R.heap.size + 1 + 1]? = some (.loop rb') ∧ Below w0.heap.size w0 (W5.putObj (R.heap.size + 1 + 1) (.loop r)) ∧ (W5.putObj (R.heap.size + 1 + 1) (.loop r)).heap[bs]? = some sl ∧ J (i + 1 + 1) (W5.putObj (R.heap.size + 1 + 1) (.loop r)) ∧ LS w0 pb m0 R.heap.size W0.heap.size R.heap.size W1.heap.size (W0.heap.size + 1) W1.heap.size (R.heap.size + 1) (.cells #[.func (.yield l) #[] #[]] 89) (E.run zs x.ps (i + 1)) (i + 1) (.loop r) (W5.putObj (R.heap.size + 1 + 1) (.loop r)) := by
       intro W5 q1 q2 q3 q4
       have kk : KpO pb W0.heap.size W5 (W5.putObj (R.heap.size + 1 + 1) (.loop r)) := (KpO.refl _ _ _).put (by omega) q1.no2.2.2 _
       exact ⟨q1.rec_, q3.trans (kk.below.mono (by omega)), (World.putObj_heap_other (by omega)).trans q4, hJ _ _ _ q2 kk, q1.put G _⟩
     have FIN := hide fin
     clear fin
     cases hen : (E.run zs x.ps (i + 1)).en with
     | true =>
       rw [hen] at t4
       have hgo := hngo.out hen
       rw [hgo] at t5
       obtain ⟨fn, tmps, assign, body, hy, hR⟩ := yield_anyN (n - 1 - 1 - 1) (HYY.out (i + 1) (by omega) (by rw [hhit.out]; exact hen) W4 HJ4.out (by omega) HB4.out)
       have ecast : (((i + 1 : Nat) : Int)) = (i : Int) + 1 := by omega
       rw [ecast] at hy
       gi_wp2
       refine ⟨(fun h => by cases h), RoundIn.mono (F := Fence.wide.inRound (R.heap.size + 1 + 1)) hR ?_⟩
       rintro e W5 (⟨rfl, hfr, hJ5⟩ | ⟨rfl, hfx, hS5⟩)
       · have L5 := HL4.out.fr G hfr
         have b5 := HB4.out.trans hfr.below
         have xs5 : W5.heap[bs]? = some sl := (hfr.hi bs (by omega) (by omega) (HL4.out.no bs (by omega) (by omega))).trans HX4.out
         have u5 := L5.pr.tell.2.2
         rw [hgo] at u5
         simp only [Nat.zero_add] at u5
         obtain ⟨f1, f2, f3', f4, f5⟩ := FIN.out W5 L5 hJ5 b5 xs5
         clear hy hR hfr t4 t5 e4 ty4 L5
         gi_wp2
         exact ⟨f1, .inl ⟨rfl, f2, f3', f4, f5⟩⟩
       · have r5 := (hfx (R.heap.size + 1 + 1) (by omega) (by omega) (by omega) HL4.out.no2.2.2).trans HL4.out.rec_
         have d5 := (hfx (R.heap.size + 1) (by omega) (by omega) (by omega) HL4.out.no2.2.1).trans HL4.out.def_
         have HS5 := hide hS5
         have R5 := hide r5
         have D5 := hide d5
         clear hy hR hfx hS5 t4 t5 e4 ty4 r5 d5
         gi_wp2
         refine ⟨R5.out, fun rd h1 h2 => .inr ⟨rfl, .inr ⟨i + 1, by omega, hS _ _ _ HS5.out (below_put _ _ (by omega))⟩, ⟨rd, h1, h2, World.putObj_heap_same (Array.getElem?_eq_some_iff.1 R5.out).1⟩, (World.putObj_heap_other (by omega)).trans D5.out⟩⟩
     | false =>
       rw [hen] at t4
       have J5 : J (i + 2) W4 := HSK.out _ _ (by rw [hhit.out]; exact hen) HJ4.out
       cases hgo : (E.run zs x.ps (i + 1)).go with
       | true =>
         rw [hgo] at t5
         obtain ⟨f1, f2, f3', f4, f5⟩ := FIN.out W4 HL4.out J5 HB4.out HX4.out
         gi_wp2
         refine ⟨(fun _ h => by cases h), ?_⟩
         gi_wp2
         exact ⟨f1, .inl ⟨rfl, f2, f3', f4, f5⟩⟩
       | false =>
         rw [hgo] at t5
         have J6 := hdead.out hgo _ J5
         have r5 := HL4.out.rec_
         have d5 := HL4.out.def_
         have n5 := HL4.out.no2.2
         gi_wp2
         refine ⟨(fun _ h => by cases h), ?_⟩
         gi_wp2
         refine ⟨r5, fun rd h1 h2 => .inr ⟨rfl, .inl ⟨hJ _ _ _ J6 ((KpO.refl _ _ _).put (by omega) n5.2 _), fun ho => n5.1 (ho.of (World.putObj_heap_other (by omega))), fun ho => n5.2 (ho.of (World.putObj_heap_other (by omega)))⟩, ⟨rd, h1, h2, World.putObj_heap_same (Array.getElem?_eq_some_iff.1 r5).1⟩, (World.putObj_heap_other (by omega)).trans d5⟩⟩
   rintro e W' ⟨hv, h⟩
   refine ⟨hv, ?_⟩
   rcases h with ⟨j1, jL⟩ | ⟨i, hi, hst, ⟨rd, hd1, hd2, hd3⟩, j4⟩
   · refine .inl ⟨jL.rec_, fun r' => ?_⟩
     have k4 := (World.putObj_heap_other (w := W') (o := .loop r') (show R.heap.size + 1 ≠ R.heap.size + 1 + 1 by omega)).trans jL.def_
     have kk : KpO pb W0.heap.size W' (W'.putObj (R.heap.size + 1 + 1) (.loop r')) := (KpO.refl _ _ _).put (by omega) jL.no2.2.2 _
     have kJ := hJ _ _ _ j1 kk
     have kn : ¬ Ow pb (W'.putObj (R.heap.size + 1 + 1) (.loop r')) (R.heap.size + 1) := fun ho => jL.no2.2.1 (ho.of (kk.below.block pb (by omega)))
     generalize W'.putObj (R.heap.size + 1 + 1) (.loop r') = W9 at *
     clear jL
     gi_wp2
     refine ⟨by simp, .inl ⟨_, _, rfl, run_takeDeferred k4, ?_⟩⟩
     exact ⟨_, results_none rfl _ _ _, ⟨_, rfl⟩, .inl (hJ _ _ _ kJ ((KpO.refl _ _ _).put (by omega) kn _))⟩
   · refine .inr ⟨rd, hd1, hd2, hd3, fun r' => ?_⟩
     have k4 := (World.putObj_heap_other (w := W') (o := .loop r') (show R.heap.size + 1 ≠ R.heap.size + 1 + 1 by omega)).trans j4
     have hpbk : (W'.putObj (R.heap.size + 1 + 1) (.loop r')).heap[pb]? = W'.heap[pb]? := World.putObj_heap_other (by omega)
     have kS : (J (zs.length + 1) (W'.putObj (R.heap.size + 1 + 1) (.loop r')) ∧ ¬ Ow pb (W'.putObj (R.heap.size + 1 + 1) (.loop r')) (R.heap.size + 1)) ∨ ∃ m, m ≤ zs.length ∧ Stop m (W'.putObj (R.heap.size + 1 + 1) (.loop r')) := by
       rcases hst with ⟨p1, p2, p3⟩ | ⟨m, p1, p2⟩
       · exact .inl ⟨hJ _ _ _ p1 ((KpO.refl _ _ _).put (by omega) p3 _), fun ho => p2 (ho.of hpbk)⟩
       · exact .inr ⟨m, p1, hS _ _ _ p2 (below_put _ _ (by omega))⟩
     clear hst hpbk
     generalize W'.putObj (R.heap.size + 1 + 1) (.loop r') = W9 at *
     gi_wp2
     refine ⟨by simp, .inl ⟨_, _, rfl, run_takeDeferred k4, ?_⟩⟩
     refine ⟨_, results_none rfl _ _ _, ⟨_, rfl⟩, ?_⟩
     rcases kS with ⟨p1, p2⟩ | ⟨m, p1, p2⟩
     · exact .inl (hJ _ _ _ p1 ((KpO.refl _ _ _).put (by omega) p2 _))
     · exact .inr ⟨m, p1, hS _ _ _ p2 (below_put _ _ (by omega))⟩
end Go.Proofs.YtemanednddhfaaaGreatDoor
