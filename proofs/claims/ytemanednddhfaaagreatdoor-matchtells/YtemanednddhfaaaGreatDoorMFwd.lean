/- Joined: Fwd. -/
import Derived.Test.YtemanednddhfaaaGreatDoorMRk0
import Derived.Test.YtemanednddhfaaaGreatDoorMPre
import Derived.Maps.AppendAt
namespace Go.Proofs.YtemanednddhfaaaGreatDoor
open Go.RowKit
open E (Ps Rx T)
attribute [local go_sem] Oper.semAt_some
theorem PR.wide {w0 W : World} : ∀ {p : Ps} {b o lo hi lo' hi' : Nat}, PR w0 W p b o lo hi → lo' ≤ lo → hi ≤ hi' → PR w0 W p b o lo' hi'
 | .leaf k s nu en go, b, o, lo, hi, lo', hi', h, _, _ => by
   unfold PR at h ⊢
   exact h
 | .one k a nu en go, b, o, lo, hi, lo', hi', h, h1, h2 => by
   unfold PR at h ⊢
   obtain ⟨i1, sv, g, kc, i3, i4, i5, i6, i7⟩ := h
   exact ⟨i1, sv, g, kc, i3, by omega, by omega, i6, PR.wide i7 h1 (Nat.le_refl _)⟩
 | .two k x y nu en go, b, o, lo, hi, lo', hi', h, h1, h2 => by
   unfold PR at h ⊢
   obtain ⟨i1, sv, g, kc, l1, e1, l2, e2, i3, i4, i5, i6, i7, i8, i9, i10, i11⟩ := h
   exact ⟨i1, sv, g, kc, l1, e1, l2, e2, i3, by omega, by omega, i6, i7, i8, by omega, by omega, i11⟩
def six (k : Int) (sp : Option Addr) (sl sc : Nat) (kp : Option Addr) (kl kc : Nat) (nu en go : Bool) : List Value := [.int .i64 k, .slice sp sl sc, .slice kp kl kc, .bool nu, .bool en, .bool go]
def PV (w0 W : World) (p : Ps) (v : Value) (lo hi : Nat) : Prop :=
 ∃ k sp sl sc kp kl kc nu en go, v = .agg (six k sp sl sc kp kl kc nu en go).toArray ∧
   ∀ V b o, C6 V b o k (.slice sp sl sc) (.slice kp kl kc) nu en go → (∀ i, lo ≤ i → i < hi → V.heap[i]? = W.heap[i]?) → PR w0 V p b o lo hi
def HowC (h : Nat) (f : T → Ps) (t : T) : Prop := ∀ (w0 W : World) (d : ND), TR w0 (fun _ => True) t d.v → Below w0.heap.size w0 W →
 Calls Tryz.prog h #[d.v] W fun e W' => ∃ v, e = .returned v ∧ PV w0 W' (f t) v W.heap.size W'.heap.size ∧ Below W.heap.size W W'
theorem info147 : (Tryz.prog.info? 147).map (fun i => (i.zero, i.size, i.bytes)) = some (some (.agg #[.int .i64 0, .slice none 0 0, .slice none 0 0, .bool false, .bool false, .bool false]), 6, 64) := by kernel_rfl
theorem info_parts8 {e : TypeId} {z : Value} {n k : Nat} (h : (Tryz.prog.info? e).map (fun i => (i.zero, i.size, i.bytes)) = some (some z, n, k)) : ∃ i, Tryz.prog.info? e = some i ∧ i.zero = some z ∧ i.size = n ∧ i.bytes = k := by
 cases hi : Tryz.prog.info? e with
 | none => rw [hi] at h; cases h
 | some i =>
   rw [hi] at h
   simp at h
   exact ⟨i, rfl, h.1, h.2.1, h.2.2⟩
theorem new_cells8 (W : World) (xs : List Value) (t : TypeId) (cs : Array Value) (hcs : cs = xs.toArray) : ∀ j u, xs[j]? = some u → (W.alloc (.cells cs t)).cell? ((⟨W.heap.size, 0, none⟩ : Addr).add j) = some u := by
 intro j u hj
 subst hcs
 rw [Addr.add_mid]
 simp only [World.cell?, heap_alloc_new, Nat.zero_add]
 simpa using hj
theorem six_one (k : Int) (sp : Option Addr) (sl sc : Nat) (kp : Option Addr) (kl kc : Nat) (nu en go : Bool) : ∀ u ∈ six k sp sl sc kp kl kc nu en go, u.oneCell' = true := by
 intro u hu
 simp only [six, List.mem_cons, List.not_mem_nil, or_false] at hu
 rcases hu with rfl | rfl | rfl | rfl | rfl | rfl <;> rfl
theorem own_cell8 {W : World} {B n : Nat} {v : Value} {xs : List Value} (h : W.ownsRow B 147 6 v n xs) (hn : 0 < n) : ∃ g cap, v = .slice (some ⟨g, 0, none⟩) n cap ∧ Row W g ∧ B ≤ g ∧ v.ownBlock = some g ∧ ∀ j, j < xs.length → W.cell? ⟨g, j, none⟩ = xs[j]? := by
 obtain ⟨h1, h2 | ⟨g, cp, cur, rfl, h4, h5, h6, h7, h8, h9⟩⟩ := h
 · omega
 · refine ⟨g, cp, rfl, ⟨cur, h5⟩, h4, rfl, fun j hj => ?_⟩
   have e : (cur.toList.take (n * 6))[j]? = xs[j]? := by rw [h9]
   rw [List.getElem?_take, if_pos (by omega)] at e
   simp only [World.cell?, h5]
   rw [← e]
   simp
theorem c6_of {W : World} {g o : Nat} {k : Int} {sp : Option Addr} {sl sc : Nat} {kp : Option Addr} {kl kc : Nat} {nu en go : Bool} (h : ∀ j, j < 6 → W.cell? ⟨g, o + j, none⟩ = (six k sp sl sc kp kl kc nu en go)[j]?) : C6 W g o k (.slice sp sl sc) (.slice kp kl kc) nu en go :=
 ⟨h 0 (by omega), h 1 (by omega), h 2 (by omega), h 3 (by omega), h 4 (by omega), h 5 (by omega)⟩
theorem c5_at {w W : World} {b o : Nat} {d : ND} (h : Cells5 w b o d.v) (hB : Below w.heap.size w W) : W.cell? ⟨b, o, none⟩ = some (.int .i64 d.k) ∧ W.cell? ⟨b, o + 1, none⟩ = some (.int .i64 d.a) ∧ W.cell? ⟨b, o + 2, none⟩ = some (.slice d.sp d.sl d.sc) ∧ W.cell? ⟨b, o + 3, none⟩ = some (.string d.n) ∧ W.cell? ⟨b, o + 4, none⟩ = some (.slice d.kp d.kl d.kc) := by
 have hb := cells5_lt h
 obtain ⟨c0, c1, c2, c3, c4, e, h0, h1, h2, h3, h4⟩ := h
 have k : ∀ j, W.cell? ⟨b, j, none⟩ = w.cell? ⟨b, j, none⟩ := fun j => hB.cell (p := ⟨b, j, none⟩) hb
 unfold ND.v at e
 simp only [Value.agg.injEq, Array.mk.injEq, List.cons.injEq, and_true] at e
 obtain ⟨rfl, rfl, rfl, rfl, rfl⟩ := e
 exact ⟨by rw [k]; exact h0, by rw [k]; exact h1, by rw [k]; exact h2, by rw [k]; exact h3, by rw [k]; exact h4⟩
set_option maxRecDepth 100000 in
set_option maxHeartbeats 1000000 in
theorem parts_none (h : Nat) (kp : Option Addr) (kc : Nat) (W : World) :
   Calls Tryz.prog 95 #[.slice kp 0 kc, .func (.func h) #[] #[]] W fun e W' => e = .returned (.slice none 0 0) ∧ W' = W := by
 go_enter Tryz.func95, Tryz.ntmps95
 go_wp2
 go_loopw [5, 10] (fun u v wr => u = .slice none 0 0 ∧ v = .int .i64 0 ∧ wr = W) (fun _ _ _ => 0)
 case atStart => exact ⟨rfl, rfl, rfl⟩
 case round =>
   obtain ⟨rfl, rfl, rfl⟩ := hrel
   go_wp2
   go_ret
   exact ⟨rfl, rfl⟩
def Mk (w0 w : World) (p : Ps) (lo hi : Nat) (cs : List Value) : Prop :=
 ∃ k sp sl sc kp kl kc nu en go, cs = six k sp sl sc kp kl kc nu en go ∧ ∀ V b o, C6 V b o k (.slice sp sl sc) (.slice kp kl kc) nu en go → (∀ i, lo ≤ i → i < hi → V.heap[i]? = w.heap[i]?) → PR w0 V p b o lo hi
theorem Mk.at {w0 w V : World} {p : Ps} {lo hi g o : Nat} {cs : List Value} (h : Mk w0 w p lo hi cs) (hc : ∀ j, j < 6 → V.cell? ⟨g, o + j, none⟩ = cs[j]?) (hb : ∀ i, lo ≤ i → i < hi → V.heap[i]? = w.heap[i]?) : PR w0 V p g o lo hi := by
 obtain ⟨k, sp, sl, sc, kp, kl, kc, nu, en, go, rfl, h⟩ := h
 exact h V g o (c6_of hc) hb
theorem Mk.later {w0 w w' : World} {p : Ps} {lo hi : Nat} {cs : List Value} (h : Mk w0 w p lo hi cs) (hb : ∀ i, lo ≤ i → i < hi → w'.heap[i]? = w.heap[i]?) : Mk w0 w' p lo hi cs := by
 obtain ⟨k, sp, sl, sc, kp, kl, kc, nu, en, go, e, h⟩ := h
 exact ⟨k, sp, sl, sc, kp, kl, kc, nu, en, go, e, fun V b o c hv => h V b o c (fun i h1 h2 => (hv i h1 h2).trans (hb i h1 h2))⟩
theorem Mk.len {w0 w : World} {p : Ps} {lo hi : Nat} {cs : List Value} (h : Mk w0 w p lo hi cs) : cs.length = 6 := by
 obtain ⟨k, sp, sl, sc, kp, kl, kc, nu, en, go, rfl, h⟩ := h
 rfl
def One (w0 W : World) (p : Ps) (u : Value) (wr : World) : Prop :=
 ∃ cs lo hi, W.heap.size ≤ lo ∧ lo ≤ hi ∧ Mk w0 wr p lo hi cs ∧ wr.ownsRow hi 147 6 u 1 cs ∧ Below W.heap.size W wr
theorem one_step {w0 W w1 w2 w3 : World} {p : Ps} {v' : Value} {tmp : Obj} {cs : List Value} (hm : Mk w0 w2 p w1.heap.size w2.heap.size cs) (hown : w3.ownsRow w2.heap.size 147 6 v' 1 cs) (hg : (w2.alloc tmp).grownBy w3 none) (hb : Below W.heap.size W w2) (hl : W.heap.size ≤ w1.heap.size) (h12 : w1.heap.size ≤ w2.heap.size) : One w0 W p v' w3 := by
 have h23 : ∀ i, i < w2.heap.size → w3.heap[i]? = w2.heap[i]? := fun i hi => (hg.block i (by simp; omega) (by simp)).trans (Below.heap_alloc _ _ _ hi)
 refine ⟨cs, w1.heap.size, w2.heap.size, hl, h12, hm.later (fun i _ hi => h23 i hi), hown, hb.trans ⟨hg.os, hg.tape, hg.output, Nat.le_trans (by simp) hg.size, fun i hi => h23 i (by omega)⟩⟩
theorem one_end {w0 W wr : World} {p : Ps} {u : Value} (h : One w0 W p u wr) : ∃ g cap h1, u = .slice (some ⟨g, 0, none⟩) 1 cap ∧ Row wr g ∧ PR w0 wr p g 0 W.heap.size h1 ∧ W.heap.size ≤ g ∧ h1 ≤ g ∧ Below W.heap.size W wr := by
 obtain ⟨cs, lo, hi, h1, h2, hm, ho, hb⟩ := h
 obtain ⟨g, cap, rfl, hr, hg, _, hc⟩ := own_cell8 ho (by omega)
 refine ⟨g, cap, hi, rfl, hr, (hm.at (fun j hj => ?_) (fun _ _ _ => rfl)).wide h1 (Nat.le_refl _), by omega, hg, hb⟩
 rw [Nat.zero_add]
 exact hc j (by rw [hm.len]; exact hj)
def SL (W : World) (g o : Nat) : Prop := ∃ k sp sl sc kp kl kc nu en go, C6 W g o k (.slice sp sl sc) (.slice kp kl kc) nu en go
theorem SL.keep {W W' : World} {g o : Nat} (h : SL W g o) (hb : W'.heap[g]? = W.heap[g]?) : SL W' g o := by
 obtain ⟨k, sp, sl, sc, kp, kl, kc, nu, en, go, h⟩ := h
 exact ⟨k, sp, sl, sc, kp, kl, kc, nu, en, go, h.keep (fun j _ => cell_blk hb _)⟩
theorem Mk.sl {w0 w V : World} {p : Ps} {lo hi g o : Nat} {cs : List Value} (h : Mk w0 w p lo hi cs) (hc : ∀ j, j < 6 → V.cell? ⟨g, o + j, none⟩ = cs[j]?) : SL V g o := by
 obtain ⟨k, sp, sl, sc, kp, kl, kc, nu, en, go, rfl, h⟩ := h
 exact ⟨k, sp, sl, sc, kp, kl, kc, nu, en, go, c6_of hc⟩
def Two (w0 W : World) (p q : Ps) (u : Value) (wr : World) : Prop := ∃ g cap l1 h1 l2 h2, u = .slice (some ⟨g, 0, none⟩) 2 cap ∧ Row wr g ∧ PR w0 wr p g 0 l1 h1 ∧ PR w0 wr q g 6 l2 h2 ∧ (W.heap.size ≤ l1 ∧ h1 ≤ wr.heap.size ∧ (g < l1 ∨ h1 ≤ g)) ∧ (W.heap.size ≤ l2 ∧ h2 ≤ wr.heap.size ∧ (g < l2 ∨ h2 ≤ g)) ∧ (h1 ≤ l2 ∨ h2 ≤ l1) ∧ W.heap.size ≤ g ∧ g < wr.heap.size ∧ Below W.heap.size W wr ∧ SL wr g 0 ∧ SL wr g 6
theorem two_step {w0 W w1 w2 w3 : World} {p q : Ps} {u v' : Value} {tmp : Obj} {cs1 cs2 : List Value} {lo hi : Nat} (h1 : W.heap.size ≤ lo) (h2 : lo ≤ hi) (hm1 : Mk w0 w2 p lo hi cs1) (ho1 : w1.ownsRow hi 147 6 u 1 cs1)
   (hm : Mk w0 w2 q w1.heap.size w2.heap.size cs2) (hown : w3.ownsRow hi 147 6 v' (1 + 1) (cs1 ++ cs2)) (hg : (w2.alloc tmp).grownBy w3 u.ownBlock) (hat : v'.ownBlock = u.ownBlock ∨ v'.ownBlock = some (w2.alloc tmp).heap.size) (hb : Below W.heap.size W w2) (hl : hi ≤ w1.heap.size) (h12 : w1.heap.size ≤ w2.heap.size) : Two w0 W p q v' w3 := by
 obtain ⟨g1, cap1, rfl, hr1, hg1, _, _⟩ := own_cell8 ho1 (by omega)
 have hlt := hr1.lt
 obtain ⟨g, cap, rfl, hr, hgb, _, hc⟩ := own_cell8 hown (by omega)
 have hne : ∀ i, i < w2.heap.size → i ≠ g1 → w3.heap[i]? = w2.heap[i]? := fun i hi hn => (hg.block i (by simp; omega) (by simp [Value.ownBlock]; omega)).trans (Below.heap_alloc _ _ _ hi)
 have hs3 : w2.heap.size + 1 ≤ w3.heap.size := by have := hg.size; simp at this; omega
 have hga : g = g1 ∨ w2.heap.size ≤ g := by
   rcases hat with h | h
   · left; simpa [Value.ownBlock] using h
   · right; simp [Value.ownBlock] at h; omega
 have hl1 := hm1.len
 have hl2 := hm.len
 have k1 : ∀ j, j < 6 → w3.cell? ⟨g, 0 + j, none⟩ = cs1[j]? := fun j hj => by
   rw [Nat.zero_add, hc j (by rw [List.length_append]; omega), List.getElem?_append_left (by omega)]
 have k2 : ∀ j, j < 6 → w3.cell? ⟨g, 6 + j, none⟩ = cs2[j]? := fun j hj => by
   rw [hc (6 + j) (by rw [List.length_append]; omega), List.getElem?_append_right (by omega)]
   congr 1
   omega
 exact ⟨g, cap, lo, hi, w1.heap.size, w2.heap.size, rfl, hr, hm1.at k1 (fun i _ hi' => hne i (by omega) (by omega)), hm.at k2 (fun i hi' hi'' => hne i hi'' (by omega)), ⟨h1, by omega, by omega⟩, ⟨by omega, by omega, by omega⟩, .inl hl, by omega, hr.lt, hb.trans ⟨hg.os, hg.tape, hg.output, by omega, fun i hi' => hne i (by have := hb.size; omega) (by omega)⟩, hm1.sl k1, hm.sl k2⟩
theorem elemSize24F (w : World) : (sizeOf (Tryz.prog.elem 24)).run Tryz.prog w = .ok 5 w := by kernel_rfl
set_option maxRecDepth 100000 in
set_option maxHeartbeats 2000000 in
theorem parts_one66 (f : T → Ps) (x0 : T) (hx0 : HowC 61 f x0) (w0 W : World) (kp : Option Addr) (kc : Nat) (hK : KR w0 (fun _ => True) [x0] kp 0) (hB : Below w0.heap.size w0 W) :
   Calls Tryz.prog 95 #[.slice kp 1 kc, .func (.func 61) #[] #[]] W fun e W' => ∃ u, e = .returned u ∧ One w0 W (f x0) u W' := by
 rw [KR] at hK
 obtain ⟨⟨b, off, v, rfl, _, hT0, hC0⟩, _⟩ := hK
 rw [show off + 0 * 5 = off by omega] at hC0
 obtain ⟨d0, rfl, hdd⟩ := hT0.nd
 clear hdd
 have hbl0 := cells5_lt hC0
 obtain ⟨i0, hi0, hz0, hz1, hz2⟩ := info_parts8 info147
 have es := elemSize24F
 go_enter Tryz.func95, Tryz.ntmps95
 go_wp2
 go_loopw [5, 10] (fun u v wr => (u = .slice none 0 0 ∧ v = .int .i64 0 ∧ Below W.heap.size W wr) ∨ (v = .int .i64 1 ∧ One w0 W (f x0) u wr)) (fun _ v _ => 1 - (intOf v).toNat)
 case atStart => exact .inl ⟨rfl, rfl, Below.refl _ _⟩
 case round =>
   rcases hrel with ⟨rfl, rfl, hB2⟩ | ⟨rfl, ho⟩
   · have hB1 : Below w0.heap.size w0 wr := hB.trans (hB2.mono hB.size)
     obtain ⟨c0, c1, c2, c3, c4⟩ := c5_at hC0 hB1
     have a1 := al1 wr (.cells #[.int .i64 d0.k, .int .i64 d0.a, .slice d0.sp d0.sl d0.sc, .string d0.n, .slice d0.kp d0.kl d0.kc] 26)
     have hcall := hx0 w0 (wr.alloc (.cells #[.int .i64 d0.k, .int .i64 d0.a, .slice d0.sp d0.sl d0.sc, .string d0.n, .slice d0.kp d0.kl d0.kc] 26)) d0 hT0 (hB1.trans (a1.mono hB1.size))
     have hbW : b < wr.heap.size := by have := hB1.size; omega
     unfold ND.v at hcall
     go_wp2_with fail
     refine hcall.mono ?_
     rintro e w2 ⟨v, rfl, hpv, hb2⟩
     obtain ⟨k, sp, sl, sc, kp, kl, kc, nu, en, go, rfl, hmk⟩ := hpv
     have z1 := World.size_alloc wr (.cells #[.int .i64 d0.k, .int .i64 d0.a, .slice d0.sp d0.sl d0.sc, .string d0.n, .slice d0.kp d0.kl d0.kc] 26)
     have z2 := hb2.size
     have bb := nx a1 hb2
     have HMK : Hid (Mk w0 w2 (f x0) (wr.alloc (.cells #[.int .i64 d0.k, .int .i64 d0.a, .slice d0.sp d0.sl d0.sc, .string d0.n, .slice d0.kp d0.kl d0.kc] 26)).heap.size w2.heap.size (six k sp sl sc kp kl kc nu en go)) := hide ⟨k, sp, sl, sc, kp, kl, kc, nu, en, go, rfl, hmk⟩
     unfold six
     clear hcall c0 c1 c2 c3 c4 hmk
     go_wp2_with (at_builtin; refine wpList_append_own_at _ rfl _ _ 145 rfl w2.heap.size 147 i0 _ 6 64 Tryz.underlying145 hi0 hz0 hz1 hz2 rfl (by decide) (.slice none 0 0) 0 [] rfl (World.ownsRow_nil _ _ _ _) ⟨w2.heap.size, 0, none⟩ 1 1 (six k sp sl sc kp kl kc nu en go) rfl rfl (new_cells8 _ _ _ _ rfl) (six_one _ _ _ _ _ _ _ _ _ _) (by unfold maxLen; omega) (by omega) (by have := z2; simp; try omega) ?_; intro v' w3 hown hgrow _ hat)
     have ho := one_step HMK.out hown hgrow (hB2.trans (bb.mono hB2.size)) (by have := hB2.size; omega) z2
     go_roundw
     case rel => exact .inr ⟨by first | rfl | go_num, ho⟩
     case measure => simp [intOf]
   · obtain ⟨g, cap, h1, rfl, _⟩ := one_end ho
     have HO := hide ho
     clear ho
     go_wp2
     go_ret
     exact ⟨_, rfl, HO.out⟩
set_option maxRecDepth 100000 in
set_option maxHeartbeats 2000000 in
theorem parts_two66 (f : T → Ps) (x0 x1 : T) (hx0 : HowC 61 f x0) (hx1 : HowC 61 f x1) (w0 W : World) (kp : Option Addr) (kc : Nat) (hK : KR w0 (fun _ => True) [x0, x1] kp 0) (hB : Below w0.heap.size w0 W) :
   Calls Tryz.prog 95 #[.slice kp 2 kc, .func (.func 61) #[] #[]] W fun e W' => ∃ u, e = .returned u ∧ Two w0 W (f x0) (f x1) u W' := by
 rw [KR, KR] at hK
 obtain ⟨⟨b, off, v, rfl, _, hT0, hC0⟩, ⟨b', off', v1, e1, _, hT1, hC1⟩, _⟩ := hK
 cases e1
 rw [show off + 0 * 5 = off by omega] at hC0
 rw [show off + (0 + 1) * 5 = off + 5 by omega] at hC1
 obtain ⟨d0, rfl, hdd⟩ := hT0.nd
 clear hdd
 have hbl0 := cells5_lt hC0
 obtain ⟨d1, rfl, hdd⟩ := hT1.nd
 clear hdd
 have hbl1 := cells5_lt hC1
 obtain ⟨i0, hi0, hz0, hz1, hz2⟩ := info_parts8 info147
 have es := elemSize24F
 go_enter Tryz.func95, Tryz.ntmps95
 go_wp2
 go_loopw [5, 10] (fun u v wr => (u = .slice none 0 0 ∧ v = .int .i64 0 ∧ Below W.heap.size W wr) ∨ (v = .int .i64 1 ∧ One w0 W (f x0) u wr) ∨ (v = .int .i64 2 ∧ Two w0 W (f x0) (f x1) u wr)) (fun _ v _ => 2 - (intOf v).toNat)
 case atStart => exact .inl ⟨rfl, rfl, Below.refl _ _⟩
 case round =>
   rcases hrel with ⟨rfl, rfl, hB2⟩ | ⟨rfl, ho⟩ | ⟨rfl, ho⟩
   · have hB1 : Below w0.heap.size w0 wr := hB.trans (hB2.mono hB.size)
     obtain ⟨c0, c1, c2, c3, c4⟩ := c5_at hC0 hB1
     have a1 := al1 wr (.cells #[.int .i64 d0.k, .int .i64 d0.a, .slice d0.sp d0.sl d0.sc, .string d0.n, .slice d0.kp d0.kl d0.kc] 26)
     have hcall := hx0 w0 (wr.alloc (.cells #[.int .i64 d0.k, .int .i64 d0.a, .slice d0.sp d0.sl d0.sc, .string d0.n, .slice d0.kp d0.kl d0.kc] 26)) d0 hT0 (hB1.trans (a1.mono hB1.size))
     have hbW : b < wr.heap.size := by have := hB1.size; omega
     unfold ND.v at hcall
     go_wp2_with fail
     refine hcall.mono ?_
     rintro e w2 ⟨v, rfl, hpv, hb2⟩
     obtain ⟨k, sp, sl, sc, kp, kl, kc, nu, en, go, rfl, hmk⟩ := hpv
     have z1 := World.size_alloc wr (.cells #[.int .i64 d0.k, .int .i64 d0.a, .slice d0.sp d0.sl d0.sc, .string d0.n, .slice d0.kp d0.kl d0.kc] 26)
     have z2 := hb2.size
     have bb := nx a1 hb2
     have HMK : Hid (Mk w0 w2 (f x0) (wr.alloc (.cells #[.int .i64 d0.k, .int .i64 d0.a, .slice d0.sp d0.sl d0.sc, .string d0.n, .slice d0.kp d0.kl d0.kc] 26)).heap.size w2.heap.size (six k sp sl sc kp kl kc nu en go)) := hide ⟨k, sp, sl, sc, kp, kl, kc, nu, en, go, rfl, hmk⟩
     unfold six
     clear hcall c0 c1 c2 c3 c4 hmk
     go_wp2_with (at_builtin; refine wpList_append_own_at _ rfl _ _ 145 rfl w2.heap.size 147 i0 _ 6 64 Tryz.underlying145 hi0 hz0 hz1 hz2 rfl (by decide) (.slice none 0 0) 0 [] rfl (World.ownsRow_nil _ _ _ _) ⟨w2.heap.size, 0, none⟩ 1 1 (six k sp sl sc kp kl kc nu en go) rfl rfl (new_cells8 _ _ _ _ rfl) (six_one _ _ _ _ _ _ _ _ _ _) (by unfold maxLen; omega) (by omega) (by have := z2; simp; try omega) ?_; intro v' w3 hown hgrow _ hat)
     have ho := one_step HMK.out hown hgrow (hB2.trans (bb.mono hB2.size)) (by have := hB2.size; omega) z2
     go_roundw
     case rel => exact .inr (.inl ⟨by first | rfl | go_num, ho⟩)
     case measure => simp [intOf]
   · obtain ⟨cs1, lo, hi, hlo, hlh, hm1, ho1, hB2⟩ := ho
     obtain ⟨g, cap, rfl, hr1, hg1, _, _⟩ := own_cell8 ho1 (by omega)
     have hlt := hr1.lt
     have hB1 : Below w0.heap.size w0 wr := hB.trans (hB2.mono hB.size)
     have HO1 := hide ho1
     have HM1 := hide hm1
     clear hm1 ho1
     obtain ⟨c0, c1, c2, c3, c4⟩ := c5_at hC1 hB1
     have a1 := al1 wr (.cells #[.int .i64 d1.k, .int .i64 d1.a, .slice d1.sp d1.sl d1.sc, .string d1.n, .slice d1.kp d1.kl d1.kc] 26)
     have hcall := hx1 w0 (wr.alloc (.cells #[.int .i64 d1.k, .int .i64 d1.a, .slice d1.sp d1.sl d1.sc, .string d1.n, .slice d1.kp d1.kl d1.kc] 26)) d1 hT1 (hB1.trans (a1.mono hB1.size))
     have hbW : b < wr.heap.size := by have := hB1.size; omega
     unfold ND.v at hcall
     go_wp2_with fail
     refine hcall.mono ?_
     rintro e w2 ⟨v, rfl, hpv, hb2⟩
     obtain ⟨k, sp, sl, sc, kp, kl, kc, nu, en, go, rfl, hmk⟩ := hpv
     have z1 := World.size_alloc wr (.cells #[.int .i64 d1.k, .int .i64 d1.a, .slice d1.sp d1.sl d1.sc, .string d1.n, .slice d1.kp d1.kl d1.kc] 26)
     have z2 := hb2.size
     have bb := nx a1 hb2
     have HMK : Hid (Mk w0 w2 (f x1) (wr.alloc (.cells #[.int .i64 d1.k, .int .i64 d1.a, .slice d1.sp d1.sl d1.sc, .string d1.n, .slice d1.kp d1.kl d1.kc] 26)).heap.size w2.heap.size (six k sp sl sc kp kl kc nu en go)) := hide ⟨k, sp, sl, sc, kp, kl, kc, nu, en, go, rfl, hmk⟩
     unfold six
     clear hcall c0 c1 c2 c3 c4 hmk
     go_wp2_with (at_builtin; refine wpList_append_own_at _ rfl _ _ 145 rfl hi 147 i0 _ 6 64 Tryz.underlying145 hi0 hz0 hz1 hz2 rfl (by decide) (.slice (some ⟨g, 0, none⟩) 1 cap) 1 cs1 rfl (HO1.out.kept (grown_below (bb.trans ((al1 w2 _).mono bb.size)) none) (by simp [Value.ownBlock])) ⟨w2.heap.size, 0, none⟩ 1 1 (six k sp sl sc kp kl kc nu en go) rfl rfl (new_cells8 _ _ _ _ rfl) (six_one _ _ _ _ _ _ _ _ _ _) (by unfold maxLen; omega) (by omega) (by have := z2; simp; try omega) ?_; intro v' w3 hown hgrow _ hat)
     have ho := two_step hlo hlh (HM1.out.later (fun i _ hi => ((nx a1 hb2).block i (by omega)))) (HO1.out.kept (grown_below a1 none) (by simp [Value.ownBlock])) HMK.out hown hgrow hat (hB2.trans (bb.mono hB2.size)) (by omega) z2
     go_roundw
     case rel => exact .inr (.inr ⟨by first | rfl | go_num, ho⟩)
     case measure => simp [intOf]
   · obtain ⟨g, cap, l1, h1, l2, h2, rfl, _⟩ := id ho
     have HO := hide ho
     clear ho
     go_wp2
     go_ret
     exact ⟨_, rfl, HO.out⟩
def putP (w : World) (b : Nat) (v0 v1 v2 v3 v4 v5 : Value) : World := (((((w.setCell ⟨b, 0, none⟩ v0).setCell ⟨b, 1, none⟩ v1).setCell ⟨b, 2, none⟩ v2).setCell ⟨b, 3, none⟩ v3).setCell ⟨b, 4, none⟩ v4).setCell ⟨b, 5, none⟩ v5
theorem putP_box {w : World} {b : Nat} {v0 v1 v2 v3 v4 v5 u0 u1 u2 u3 u4 u5 : Value} {t : TypeId} (h : w.heap[b]? = some (.cells #[u0, u1, u2, u3, u4, u5] t)) : (putP w b v0 v1 v2 v3 v4 v5).heap[b]? = some (.cells #[v0, v1, v2, v3, v4, v5] t) := by
 simp [putP, World.setCell, Array.getElem?_modify, h]
theorem putP_other {w : World} {b k : Nat} {v0 v1 v2 v3 v4 v5 : Value} (h : k ≠ b) : (putP w b v0 v1 v2 v3 v4 v5).heap[k]? = w.heap[k]? := by
 unfold putP
 rw [Below.heap_setCell _ _ _ _ h, Below.heap_setCell _ _ _ _ h, Below.heap_setCell _ _ _ _ h, Below.heap_setCell _ _ _ _ h, Below.heap_setCell _ _ _ _ h, Below.heap_setCell _ _ _ _ h]
theorem putP_size (w : World) (b : Nat) (v0 v1 v2 v3 v4 v5 : Value) : (putP w b v0 v1 v2 v3 v4 v5).heap.size = w.heap.size := by simp [putP, World.setCell]
theorem putP_below {n : Nat} {w0 w : World} {b : Nat} {v0 v1 v2 v3 v4 v5 : Value} (h : Below n w0 w) (hb : n ≤ b) : Below n w0 (putP w b v0 v1 v2 v3 v4 v5) :=
 ((((((h.setCell (p := ⟨b, 0, none⟩) hb _).setCell (p := ⟨b, 1, none⟩) hb _).setCell (p := ⟨b, 2, none⟩) hb _).setCell (p := ⟨b, 3, none⟩) hb _).setCell (p := ⟨b, 4, none⟩) hb _).setCell (p := ⟨b, 5, none⟩) hb _)
theorem cells_six {W : World} {k : Nat} {u v x y z a : Value} {t : TypeId} (h : W.heap[k]? = some (.cells #[u, v, x, y, z, a] t)) : W.cell? ⟨k, 0, none⟩ = some u ∧ W.cell? ⟨k, 1, none⟩ = some v ∧ W.cell? ⟨k, 2, none⟩ = some x ∧ W.cell? ⟨k, 3, none⟩ = some y ∧ W.cell? ⟨k, 4, none⟩ = some z ∧ W.cell? ⟨k, 5, none⟩ = some a := by
 simp [World.cell?, h]
theorem Rcl.stP {w : World} {ρ : Operand → Value} {o : Oper} {x y : Operand} {b : Nat} {k : Int} {sp kp : Option Addr} {sl sc kl kc : Nat} {nu en go : Bool} {u0 u1 u2 u3 u4 u5 : Value} (hop : o.op = .store 147 x y) (hx : ρ x = .pointer (some ⟨b, 0, none⟩)) (hy : ρ y = .agg #[.int .i64 k, .slice sp sl sc, .slice kp kl kc, .bool nu, .bool en, .bool go]) (h : w.heap[b]? = some (.cells #[u0, u1, u2, u3, u4, u5] 147)) : (execOp ρ o).run Tryz.prog w = .ok .skip (putP w b (.int .i64 k) (.slice sp sl sc) (.slice kp kl kc) (.bool nu) (.bool en) (.bool go)) := by
 obtain ⟨dst, op, type, pos, after, guard⟩ := o
 simp only at hop
 subst hop
 obtain ⟨c0, c1, c2, c3, c4, c5⟩ := cells_six h
 have f : ∀ j, w.frozen? ⟨b, j, none⟩ = false := fun j => by simp [World.frozen?, h]
 have hsz := Tryz.sizeOf147 w
 simp [execOp, hx, hy, Instr.storeAt, Instr.sureAddr, storeVar, Sem.run_bind, hsz, Result.andThen, go_sem, c0, c1, c2, c3, c4, c5, f]
 rfl
theorem Rcl.faN {w : World} {ρ : Operand → Value} {o : Oper} {x : Operand} {b off i : Nat} (hop : o.op = .fieldAddr 26 x i) (hx : ρ x = .pointer (some ⟨b, off, none⟩)) (hi : i = 0 ∨ i = 2 ∨ i = 4) : (execOp ρ o).run Tryz.prog w = .ok (.value (.pointer (some ⟨b, off + i, none⟩))) w := by
 obtain ⟨dst, op, type, pos, after, guard⟩ := o
 simp only at hop
 subst hop
 rcases hi with rfl | rfl | rfl <;> simp [execOp, hx, go_sem]
set_option maxRecDepth 100000 in
set_option maxHeartbeats 2000000 in
theorem fwd_walk (d : ND) (W : World) (R : Option Addr → Nat → Nat → World → Prop) (R2 : Option Addr → Nat → Nat → Bool → World → Prop)
   (hparts : ∀ X, Below W.heap.size W X → W.heap.size + 2 ≤ X.heap.size → Calls Tryz.prog 95 #[.slice d.kp d.kl d.kc, .func (.func 61) #[] #[]] X fun e W1 => ∃ kp kl kc, e = .returned (.slice kp kl kc) ∧ Below X.heap.size X W1 ∧ R kp kl kc W1)
   (hof : ∀ kp kl kc W1, R kp kl kc W1 → Calls Tryz.prog 94 #[.int .i64 d.k, .slice d.sp d.sl d.sc, .slice kp kl kc] W1 fun e W2 => ∃ nu, e = .returned (.agg #[.int .i64 d.k, .slice d.sp d.sl d.sc, .slice kp kl kc, .bool nu, .bool false, .bool false]) ∧ Below W1.heap.size W1 W2 ∧ R2 kp kl kc nu W2) :
   Calls Tryz.prog 61 #[d.v] W fun e W' => ∃ kp kl kc nu W2, e = .returned (.agg #[.int .i64 d.k, .slice d.sp d.sl d.sc, .slice kp kl kc, .bool nu, .bool false, .bool false]) ∧ R2 kp kl kc nu W2 ∧ (∀ i, W.heap.size + 2 ≤ i → W'.heap[i]? = W2.heap[i]?) ∧ W'.heap.size = W2.heap.size ∧ Below W.heap.size W W' := by
 have a1 := al1 W (.cells #[.int .i64 d.k, .int .i64 d.a, .slice d.sp d.sl d.sc, .string d.n, .slice d.kp d.kl d.kc] 26)
 have a2 := al1 (W.alloc (.cells #[.int .i64 d.k, .int .i64 d.a, .slice d.sp d.sl d.sc, .string d.n, .slice d.kp d.kl d.kc] 26)) (.cells #[.int .i64 0, .slice none 0 0, .slice none 0 0, .bool false, .bool false, .bool false] 147)
 have n1 := heap_alloc_new W (.cells #[.int .i64 d.k, .int .i64 d.a, .slice d.sp d.sl d.sc, .string d.n, .slice d.kp d.kl d.kc] 26)
 have n2 := heap_alloc_new (W.alloc (.cells #[.int .i64 d.k, .int .i64 d.a, .slice d.sp d.sl d.sc, .string d.n, .slice d.kp d.kl d.kc] 26)) (.cells #[.int .i64 0, .slice none 0 0, .slice none 0 0, .bool false, .bool false, .bool false] 147)
 have x1 := (a2.block W.heap.size (by simp)).trans n1
 have x2 := n2
 rw [World.size_alloc] at x2
 have bX := nx a1 a2
 have sX : ((W.alloc (.cells #[.int .i64 d.k, .int .i64 d.a, .slice d.sp d.sl d.sc, .string d.n, .slice d.kp d.kl d.kc] 26)).alloc (.cells #[.int .i64 0, .slice none 0 0, .slice none 0 0, .bool false, .bool false, .bool false] 147)).heap.size = W.heap.size + 2 := by simp
 unfold ND.v
 go_enter Tryz.func61, Tryz.ntmps61
 go_wp2
 obtain ⟨X, hX⟩ : ∃ X, (W.alloc (.cells #[.int .i64 d.k, .int .i64 d.a, .slice d.sp d.sl d.sc, .string d.n, .slice d.kp d.kl d.kc] 26)).alloc (.cells #[.int .i64 0, .slice none 0 0, .slice none 0 0, .bool false, .bool false, .bool false] 147) = X := ⟨_, rfl⟩
 rw [hX] at x1 x2 bX sX ⊢
 clear hX a1 a2 n1 n2
 have kx : ∀ w', Below (W.heap.size + 1) X.drew w' → w'.heap[W.heap.size]? = some (.cells #[.int .i64 d.k, .int .i64 d.a, .slice d.sp d.sl d.sc, .string d.n, .slice d.kp d.kl d.kc] 26) := fun w' hb => (hb.block _ (by omega)).trans x1
 refine Reg.start (B := W.heap.size + 1) (by kernel_rfl) ?_
 refine Reg.take (fun _ _ _ _ _ h => h) 0 _ 3 (.pointer (some ⟨W.heap.size, 0 + 0, none⟩)) rfl (by kernel_rfl) (by kernel_rfl) (by kernel_rfl) rfl (by kernel_rfl) (by kernel_rfl) (fun w' hb => Rcl.faN rfl rfl (.inl rfl)) ?_
 refine Reg.take (fun _ _ _ _ _ h => h) 1 _ 4 (.int .i64 d.k) rfl (by kernel_rfl) (by kernel_rfl) (by kernel_rfl) rfl (by kernel_rfl) (by kernel_rfl) (fun w' hb => Reg.ldS rfl rfl (cells_five (kx w' hb)).1 (Tryz.isAgg3 _)) ?_
 refine Reg.take (fun _ _ _ _ _ h => h) 2 _ 5 (.pointer (some ⟨W.heap.size, 0 + 2, none⟩)) rfl (by kernel_rfl) (by kernel_rfl) (by kernel_rfl) rfl (by kernel_rfl) (by kernel_rfl) (fun w' hb => Rcl.faN rfl rfl (.inr (.inl rfl))) ?_
 refine Reg.take (fun _ _ _ _ _ h => h) 3 _ 6 (.slice d.sp d.sl d.sc) rfl (by kernel_rfl) (by kernel_rfl) (by kernel_rfl) rfl (by kernel_rfl) (by kernel_rfl) (fun w' hb => Reg.ldS rfl rfl (cells_five (kx w' hb)).2.2.1 (Tryz.isAgg23 _)) ?_
 refine Reg.take (fun _ _ _ _ _ h => h) 4 _ 7 (.pointer (some ⟨W.heap.size, 0 + 4, none⟩)) rfl (by kernel_rfl) (by kernel_rfl) (by kernel_rfl) rfl (by kernel_rfl) (by kernel_rfl) (fun w' hb => Rcl.faN rfl rfl (.inr (.inr rfl))) ?_
 refine Reg.take (fun _ _ _ _ _ h => h) 5 _ 8 (.slice d.kp d.kl d.kc) rfl (by kernel_rfl) (by kernel_rfl) (by kernel_rfl) rfl (by kernel_rfl) (by kernel_rfl) (fun w' hb => Reg.ldS rfl rfl (cells_five (kx w' hb)).2.2.2.2 (Tryz.isAgg24 _)) ?_
 refine Reg.call 6 _ 9 95 _ _ #[.slice d.kp d.kl d.kc, .func (.func 61) #[] #[]] rfl (by kernel_rfl) rfl (by kernel_rfl) (by kernel_rfl) rfl (by kernel_rfl) (by kernel_rfl) (hparts X.drew bX.drew (show W.heap.size + 2 ≤ X.heap.size by omega)) ?_
 rintro e W1 ⟨kp, kl, kc, rfl, hb1, hR⟩
 have s1 : X.heap.size ≤ W1.heap.size := hb1.size
 refine ⟨_, W.heap.size + 1, rfl, Nat.le_refl _, hb1.mono (show W.heap.size + 1 ≤ X.heap.size by omega), ?_⟩
 refine Reg.call 7 _ 10 94 _ _ #[.int .i64 d.k, .slice d.sp d.sl d.sc, .slice kp kl kc] rfl (by kernel_rfl) rfl (by kernel_rfl) (by kernel_rfl) rfl (by kernel_rfl) (by kernel_rfl) (hof kp kl kc W1 hR) ?_
 rintro e W2 ⟨nu, rfl, hb2, hR2⟩
 have s2 := hb2.size
 refine ⟨_, W.heap.size + 1, rfl, Nat.le_refl _, hb2.mono (by omega), ?_⟩
 have hbox : W2.heap[W.heap.size + 1]? = some (.cells #[.int .i64 0, .slice none 0 0, .slice none 0 0, .bool false, .bool false, .bool false] 147) := (hb2.block _ (by omega)).trans ((hb1.block _ (show W.heap.size + 1 < X.heap.size by omega)).trans x2)
 refine Reg.onlyS 8 _ rfl (by kernel_rfl) rfl (by kernel_rfl) (by kernel_rfl) ⟨putP W2 (W.heap.size + 1) (.int .i64 d.k) (.slice d.sp d.sl d.sc) (.slice kp kl kc) (.bool nu) (.bool false) (.bool false), W.heap.size + 1, Rcl.stP rfl rfl rfl hbox, Nat.le_refl _, putP_below (Below.refl _ _) (Nat.le_refl _), ?_⟩
 refine Reg.done (by kernel_rfl) ?_
 simp only [Reg.ov, Act.put, List.setIfInBounds_toArray, List.set_cons_succ, List.set_cons_zero]
 obtain ⟨q0, q1, q2, q3, q4, q5⟩ := cells_six (putP_box (v0 := .int .i64 d.k) (v1 := .slice d.sp d.sl d.sc) (v2 := .slice kp kl kc) (v3 := .bool nu) (v4 := .bool false) (v5 := .bool false) hbox)
 have bF : Below W.heap.size W (putP W2 (W.heap.size + 1) (.int .i64 d.k) (.slice d.sp d.sl d.sc) (.slice kp kl kc) (.bool nu) (.bool false) (.bool false)) := putP_below (bX.drew.trans ((hb1.mono (show W.heap.size ≤ X.heap.size by omega)).trans (hb2.mono (by omega)))) (by omega)
 have fin := (⟨kp, kl, kc, nu, W2, rfl, hR2, fun i hi => putP_other (by omega), putP_size _ _ _ _ _ _ _ _, bF⟩ : ∃ kp' kl' kc' nu' W2', Ending.returned (.agg #[.int .i64 d.k, .slice d.sp d.sl d.sc, .slice kp kl kc, .bool nu, .bool false, .bool false]) = .returned (.agg #[.int .i64 d.k, .slice d.sp d.sl d.sc, .slice kp' kl' kc', .bool nu', .bool false, .bool false]) ∧ R2 kp' kl' kc' nu' W2' ∧ (∀ i, W.heap.size + 2 ≤ i → (putP W2 (W.heap.size + 1) (.int .i64 d.k) (.slice d.sp d.sl d.sc) (.slice kp kl kc) (.bool nu) (.bool false) (.bool false)).heap[i]? = W2'.heap[i]?) ∧ (putP W2 (W.heap.size + 1) (.int .i64 d.k) (.slice d.sp d.sl d.sc) (.slice kp kl kc) (.bool nu) (.bool false) (.bool false)).heap.size = W2'.heap.size ∧ Below W.heap.size W (putP W2 (W.heap.size + 1) (.int .i64 d.k) (.slice d.sp d.sl d.sc) (.slice kp kl kc) (.bool nu) (.bool false) (.bool false)))
 have FIN := hide fin
 clear fin
 generalize putP W2 (W.heap.size + 1) (.int .i64 d.k) (.slice d.sp d.sl d.sc) (.slice kp kl kc) (.bool nu) (.bool false) (.bool false) = W9 at *
 clear hR2 hbox hb2 hb1 hR kx x1 x2 bX hparts hof
 go_wp2
 exact bodyPost_ret (v := .agg #[.int .i64 d.k, .slice d.sp d.sl d.sc, .slice kp kl kc, .bool nu, .bool false, .bool false]) (by simp [results, Tryz.results61, go_sem, q0, q1, q2, q3, q4, q5]) rfl FIN.out
namespace E
def rxOf : T → Rx
 | .mk k _ s _ [] => .leaf k s
 | .mk k _ _ _ [x] => .one k (rxOf x)
 | .mk k _ _ _ (x :: y :: _) => .two k (rxOf x) (rxOf y)
def Vp : T → Prop
 | .mk k _ s _ [] => (k = 1 ∨ k = 3) ∧ s.length ≤ 1000000
 | .mk k _ _ _ [x] => (k = 6 ∨ k = 7 ∨ k = 8) ∧ Vp x
 | .mk k _ _ _ [x, y] => (k = 4 ∨ k = 5) ∧ Vp x ∧ Vp y
 | .mk _ _ _ _ (_ :: _ :: _ :: _) => False
end E
open E (rxOf Vp)
theorem TR.parts8 {w : World} {ok : Nat → Prop} {k a : Int} {s : List U.S.R} {n : List UInt8} {ks : List T} {d : ND} (h : TR w ok (.mk k a s n ks) d.v) : d.k = k ∧ d.sl = s.length ∧ U.RdR w d.sp s ∧ d.kl = ks.length ∧ KR w ok ks d.kp 0 := by
 rw [TR] at h
 obtain ⟨sp, sc, kp, kc, e, h1, h2, h3⟩ := h
 unfold ND.v at e
 simp only [Value.agg.injEq, Array.mk.injEq, List.cons.injEq, Value.int.injEq, Value.slice.injEq, and_true, true_and] at e
 obtain ⟨e1, e2, ⟨e3, e4, e5⟩, e6, e7, e8, e9⟩ := e
 exact ⟨e1, e4, by rw [e3]; exact h1, e8, by rw [e7]; exact h3⟩
theorem nul_one {k : Int} (a : Rx) (h : k = 6 ∨ k = 8) : (Rx.one k a).nul = true := by
 unfold Rx.nul; rw [if_neg (by omega)]
theorem fwd_any : ∀ (t : T), Vp t → HowC 61 (fun t => (rxOf t).ps) t
 | .mk k a s n [], hV => by
   intro w0 W d hT hB
   rw [Vp] at hV
   obtain ⟨hk, hs⟩ := hV
   obtain ⟨rfl, e2, h1, e3, _⟩ := hT.parts8
   refine (fwd_walk d W (fun kp kl kc _ => kp = none ∧ kl = 0 ∧ kc = 0) (fun kp kl kc nu _ => kp = none ∧ kl = 0 ∧ kc = 0 ∧ nu = (!(d.k == 1))) ?_ ?_).mono ?_
   · intro X _ _
     rw [show d.kl = 0 from e3]
     refine (parts_none 61 d.kp d.kc X).mono ?_
     rintro e W' ⟨rfl, rfl⟩
     exact ⟨none, 0, 0, rfl, Below.refl _ _, rfl, rfl, rfl⟩
   · rintro kp kl kc W1 ⟨rfl, rfl, rfl⟩
     rcases hk with hk | hk
     · rw [hk]
       refine (partOf_1 d.sp d.sl d.sc W1).mono ?_
       rintro e W' ⟨rfl, hb⟩
       exact ⟨false, rfl, hb, rfl, rfl, rfl, rfl⟩
     · rw [hk]
       refine (partOf_3 d.sp d.sl d.sc W1).mono ?_
       rintro e W' ⟨rfl, hb⟩
       exact ⟨true, rfl, hb, rfl, rfl, rfl, rfl⟩
   · rintro e W' ⟨kp, kl, kc, nu, W2, rfl, ⟨rfl, rfl, rfl, rfl⟩, hblk, hsz, hb⟩
     refine ⟨_, rfl, ⟨d.k, d.sp, d.sl, d.sc, none, 0, 0, _, false, false, rfl, fun V b o c _ => ?_⟩, hb⟩
     show PR w0 V (rxOf (.mk d.k a s n [])).ps b o _ _
     rw [rxOf]
     rw [e2] at c
     exact pr_leaf hk hs c h1
 | .mk k a s n [x], hV => by
   intro w0 W d hT hB
   rw [Vp] at hV
   obtain ⟨hk, hx⟩ := hV
   have ih := fwd_any x hx
   obtain ⟨rfl, e2, _, e3, hK⟩ := hT.parts8
   refine (fwd_walk d W (fun kp kl kc W1 => ∃ g h1 lo, kp = some ⟨g, 0, none⟩ ∧ kl = 1 ∧ W.heap.size + 2 ≤ lo ∧ Row W1 g ∧ PR w0 W1 (rxOf x).ps g 0 lo h1 ∧ lo ≤ g ∧ h1 ≤ g) (fun kp kl kc nu W2 => ∃ g h1 lo, kp = some ⟨g, 0, none⟩ ∧ kl = 1 ∧ W.heap.size + 2 ≤ lo ∧ Row W2 g ∧ PR w0 W2 (rxOf x).ps g 0 lo h1 ∧ lo ≤ g ∧ h1 ≤ g ∧ nu = (Rx.one d.k (rxOf x)).nul) ?_ ?_).mono ?_
   · intro X hX hXs
     rw [show d.kl = 1 from e3]
     refine (parts_one66 _ x ih w0 X d.kp d.kc hK (hB.trans (hX.mono hB.size))).mono ?_
     rintro e W1 ⟨u, rfl, ho⟩
     obtain ⟨g, cap, h1, rfl, hr, hp, hg1, hg2, hb⟩ := one_end ho
     exact ⟨_, _, _, rfl, hb, g, h1, X.heap.size, rfl, rfl, hXs, hr, hp, hg1, hg2⟩
   · rintro kp kl kc W1 ⟨g, h1, lo, rfl, rfl, q1, hr, hp, q2, q3⟩
     have hn := hp.tell.1
     rw [(Rx.ps_ok _).2.2.2] at hn
     have hl := hr.lt
     have fin : ∀ (W2 : World), Below W1.heap.size W1 W2 → Row W2 g ∧ PR w0 W2 (rxOf x).ps g 0 lo h1 := fun W2 hb => by
       have hg := hb.block g hl
       obtain ⟨cs, hr⟩ := hr
       exact ⟨⟨cs, hg.trans hr⟩, hp.keep (fun j _ => cell_blk hg _) (fun i _ hi => hb.block i (by omega))⟩
     rcases hk with hk | hk | hk
     · rw [hk]
       refine (partOf_6 d.sp d.sl d.sc g kc _ W1 hn).mono ?_
       rintro e W' ⟨rfl, hb⟩
       exact ⟨true, rfl, hb, g, h1, lo, rfl, rfl, q1, (fin _ hb).1, (fin _ hb).2, q2, q3, (nul_one _ (.inl rfl)).symm⟩
     · rw [hk]
       refine (partOf_7 d.sp d.sl d.sc g kc _ W1 hn).mono ?_
       rintro e W' ⟨rfl, hb⟩
       exact ⟨_, rfl, hb, g, h1, lo, rfl, rfl, q1, (fin _ hb).1, (fin _ hb).2, q2, q3, rfl⟩
     · rw [hk]
       refine (partOf_8 d.sp d.sl d.sc g kc _ W1 hn).mono ?_
       rintro e W' ⟨rfl, hb⟩
       exact ⟨true, rfl, hb, g, h1, lo, rfl, rfl, q1, (fin _ hb).1, (fin _ hb).2, q2, q3, (nul_one _ (.inr rfl)).symm⟩
   · rintro e W' ⟨kp, kl, kc, nu, W2, rfl, ⟨g, h1, lo, rfl, rfl, q1, hr, hp, q2, q3, rfl⟩, hblk, hsz, hb⟩
     have hl := hr.lt
     refine ⟨_, rfl, ⟨d.k, d.sp, d.sl, d.sc, some ⟨g, 0, none⟩, 1, kc, _, false, false, rfl, fun V b o c hv => ?_⟩, hb⟩
     show PR w0 V (rxOf (.mk d.k a s n [x])).ps b o _ _
     rw [rxOf]
     have hs := hb.size
     have hg : V.heap[g]? = W2.heap[g]? := (hv g (by omega) (by omega)).trans (hblk g (by omega))
     have hp' : PR w0 V (rxOf x).ps g 0 lo h1 := hp.keep (fun j _ => cell_blk hg _) (fun i hi1 hi2 => (hv i (by omega) (by omega)).trans (hblk i (by omega)))
     obtain ⟨cs, hr⟩ := hr
     exact pr_one hk c (by omega) (by omega) ⟨cs, hg.trans hr⟩ (hp'.wide (by omega) q3)
 | .mk k a s n [x, y], hV => by
   intro w0 W d hT hB
   rw [Vp] at hV
   obtain ⟨hk, hx, hy⟩ := hV
   have ihx := fwd_any x hx
   have ihy := fwd_any y hy
   obtain ⟨rfl, e2, _, e3, hK⟩ := hT.parts8
   refine (fwd_walk d W (fun kp kl kc W1 => ∃ X : World, W.heap.size + 2 ≤ X.heap.size ∧ Two w0 X (rxOf x).ps (rxOf y).ps (.slice kp kl kc) W1) (fun kp kl kc nu W2 => ∃ X : World, W.heap.size + 2 ≤ X.heap.size ∧ Two w0 X (rxOf x).ps (rxOf y).ps (.slice kp kl kc) W2 ∧ nu = (Rx.two d.k (rxOf x) (rxOf y)).nul) ?_ ?_).mono ?_
   · intro X hX hXs
     rw [show d.kl = 2 from e3]
     refine (parts_two66 _ x y ihx ihy w0 X d.kp d.kc hK (hB.trans (hX.mono hB.size))).mono ?_
     rintro e W1 ⟨u, rfl, ho⟩
     obtain ⟨g, cap, l1, h1, l2, h2, rfl, hrest⟩ := id ho
     exact ⟨_, _, _, rfl, hrest.2.2.2.2.2.2.2.2.1, X, hXs, ho⟩
   · rintro kp kl kc W1 ⟨X, hXs, g, cap, l1, h1, l2, h2, e, hr, hp, hq, i1, i2, i3, i4, i5, hb0, sl1, sl2⟩
     cases e
     have hn := hp.tell.1
     have hm := hq.tell.1
     rw [(Rx.ps_ok _).2.2.2] at hn hm
     simp only [Nat.zero_add, Nat.reduceAdd] at hn hm
     have fin : ∀ (W2 : World), Below W1.heap.size W1 W2 → Two w0 X (rxOf x).ps (rxOf y).ps (.slice (some ⟨g, 0, none⟩) 2 kc) W2 := fun W2 hb => by
       have hg := hb.block g i5
       have hs := hb.size
       have hx0 := hb0.size
       obtain ⟨cs, hr⟩ := hr
       exact ⟨g, kc, l1, h1, l2, h2, rfl, ⟨cs, hg.trans hr⟩, hp.keep (fun j _ => cell_blk hg _) (fun i _ hi => hb.block i (by omega)), hq.keep (fun j _ => cell_blk hg _) (fun i _ hi => hb.block i (by omega)), by omega, by omega, i3, i4, by omega, hb0.trans (hb.mono hx0), sl1.keep hg, sl2.keep hg⟩
     rcases hk with hk | hk
     · rw [hk]
       refine (partOf_4 d.sp d.sl d.sc g kc _ _ W1 hn hm).mono ?_
       rintro e W' ⟨rfl, hb⟩
       exact ⟨_, rfl, hb, X, hXs, fin _ hb, rfl⟩
     · rw [hk]
       refine (partOf_5 d.sp d.sl d.sc g kc _ _ W1 hn hm).mono ?_
       rintro e W' ⟨rfl, hb⟩
       exact ⟨_, rfl, hb, X, hXs, fin _ hb, rfl⟩
   · rintro e W' ⟨kp, kl, kc, nu, W2, rfl, ⟨X, hXs, ⟨g, cap, l1, h1, l2, h2, e, hr, hp, hq, i1, i2, i3, i4, i5, hb0, _, _⟩, rfl⟩, hblk, hsz, hb⟩
     cases e
     refine ⟨_, rfl, ⟨d.k, d.sp, d.sl, d.sc, some ⟨g, 0, none⟩, 2, kc, _, false, false, rfl, fun V b o c hv => ?_⟩, hb⟩
     show PR w0 V (rxOf (.mk d.k a s n [x, y])).ps b o _ _
     rw [rxOf]
     have hs := hb.size
     have hg : V.heap[g]? = W2.heap[g]? := (hv g (by omega) (by omega)).trans (hblk g (by omega))
     have hblk2 : ∀ i, X.heap.size ≤ i → i < W2.heap.size → V.heap[i]? = W2.heap[i]? := fun i hi1 hi2 => (hv i (by omega) (by omega)).trans (hblk i (by omega))
     obtain ⟨cs, hr⟩ := hr
     exact pr_two hk c (by omega) (by omega) ⟨cs, hg.trans hr⟩ (hp.keep (fun j _ => cell_blk hg _) (fun i hi1 hi2 => hblk2 i (by omega) (by omega))) (hq.keep (fun j _ => cell_blk hg _) (fun i hi1 hi2 => hblk2 i (by omega) (by omega))) (by omega) (by omega) i3
 | .mk k a s n (x :: y :: z :: ks), hV => by rw [Vp] at hV; exact hV.elim
structure Swp (g : Nat) (w w' : World) : Prop where
 x : ∀ j, j < 6 → w'.cell? ⟨g, j, none⟩ = w.cell? ⟨g, 6 + j, none⟩
 y : ∀ j, j < 6 → w'.cell? ⟨g, 6 + j, none⟩ = w.cell? ⟨g, j, none⟩
 blk : ∀ k, k ≠ g → w'.heap[k]? = w.heap[k]?
 row : Row w' g
 size : w'.heap.size = w.heap.size
 os : w'.os = w.os
 tape : w'.tape = w.tape
 output : w'.output = w.output
theorem Swp.drew {g : Nat} {w w' : World} (h : Swp g w w') : Swp g w w'.drew := ⟨h.x, h.y, h.blk, h.row, h.size, h.os, h.tape, h.output⟩
theorem Swp.below {g n : Nat} {w w' : World} (h : Swp g w w') (hn : n ≤ g) : Below n w w' := ⟨h.os, h.tape, h.output, Nat.le_of_eq h.size.symm, fun k hk => h.blk k (by omega)⟩
end Go.Proofs.YtemanednddhfaaaGreatDoor
