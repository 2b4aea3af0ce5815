/- What reads is made: partsOf, forward, backward of match. -/
import Derived.Test.YteaaijhppmkfeaaGreatDoorTPrt
import Derived.Test.YteaaijhppmkfeaaGreatDoorTPre
import Derived.Maps.AppendAt
namespace Go.Proofs.YteaaijhppmkfeaaGreatDoor
open Go.RowKit
open E (Ps Rx T)
attribute [local go_sem] Oper.semAt_some
theorem PR.wide {w0 W : World} : ∀ {p : Ps} {b o lo hi lo' hi' : Nat}, PR w0 W p b o lo hi → lo' ≤ lo → hi ≤ hi' → PR w0 W p b o lo' hi'
 | .leaf k s nu en go, b, o, lo, hi, lo', hi', h, _, _ => by
   unfold PR at h ⊢
   exact h
 | .one k a nu en go, b, o, lo, hi, lo', hi', h, h1, h2 => by
   unfold PR at h ⊢
   obtain ⟨i1, sv, g, kc, i3, i4, i5, i6, i7⟩ := h
   exact ⟨i1, sv, g, kc, i3, by omega, by omega, i6, PR.wide i7 h1 (Nat.le_refl _)⟩
 | .two k x y nu en go, b, o, lo, hi, lo', hi', h, h1, h2 => by
   unfold PR at h ⊢
   obtain ⟨i1, sv, g, kc, l1, e1, l2, e2, i3, i4, i5, i6, i7, i8, i9, i10, i11⟩ := h
   exact ⟨i1, sv, g, kc, l1, e1, l2, e2, i3, by omega, by omega, i6, i7, i8, by omega, by omega, i11⟩
def six (k : Int) (sp : Option Addr) (sl sc : Nat) (kp : Option Addr) (kl kc : Nat) (nu en go : Bool) : List Value := [.int .i64 k, .slice sp sl sc, .slice kp kl kc, .bool nu, .bool en, .bool go]
def PV (w0 W : World) (p : Ps) (v : Value) (lo hi : Nat) : Prop :=
 ∃ k sp sl sc kp kl kc nu en go, v = .agg (six k sp sl sc kp kl kc nu en go).toArray ∧
   ∀ V b o, C6 V b o k (.slice sp sl sc) (.slice kp kl kc) nu en go → (∀ i, lo ≤ i → i < hi → V.heap[i]? = W.heap[i]?) → PR w0 V p b o lo hi
theorem PV.later {w0 W W' : World} {p : Ps} {v : Value} {lo hi : Nat} (h : PV w0 W p v lo hi) (hb : ∀ i, lo ≤ i → i < hi → W'.heap[i]? = W.heap[i]?) : PV w0 W' p v lo hi := by
 obtain ⟨k, sp, sl, sc, kp, kl, kc, nu, en, go, e, h2⟩ := h
 exact ⟨k, sp, sl, sc, kp, kl, kc, nu, en, go, e, fun V b o c hv => h2 V b o c (fun i h1 h2 => (hv i h1 h2).trans (hb i h1 h2))⟩
def HowC (h : Nat) (f : T → Ps) (t : T) : Prop := ∀ (w0 W : World) (d : ND), TR w0 (fun _ => True) t d.v → Below w0.heap.size w0 W →
 Calls Tryz.prog h #[d.v] W fun e W' => ∃ v, e = .returned v ∧ PV w0 W' (f t) v W.heap.size W'.heap.size ∧ Below W.heap.size W W'
theorem info148 : (Tryz.prog.info? 148).map (fun i => (i.zero, i.size, i.bytes)) = some (some (.agg #[.int .i64 0, .slice none 0 0, .slice none 0 0, .bool false, .bool false, .bool false]), 6, 64) := by kernel_rfl
theorem info_parts8 {e : TypeId} {z : Value} {n k : Nat} (h : (Tryz.prog.info? e).map (fun i => (i.zero, i.size, i.bytes)) = some (some z, n, k)) : ∃ i, Tryz.prog.info? e = some i ∧ i.zero = some z ∧ i.size = n ∧ i.bytes = k := by
 cases hi : Tryz.prog.info? e with
 | none => rw [hi] at h; cases h
 | some i =>
   rw [hi] at h
   simp at h
   exact ⟨i, rfl, h.1, h.2.1, h.2.2⟩
theorem new_cells8 (W : World) (xs : List Value) (t : TypeId) (cs : Array Value) (hcs : cs = xs.toArray) : ∀ j u, xs[j]? = some u → (W.alloc (.cells cs t)).cell? ((⟨W.heap.size, 0, none⟩ : Addr).add j) = some u := by
 intro j u hj
 subst hcs
 rw [Addr.add_mid]
 simp only [World.cell?, heap_alloc_new, Nat.zero_add]
 simpa using hj
theorem six_one (k : Int) (sp : Option Addr) (sl sc : Nat) (kp : Option Addr) (kl kc : Nat) (nu en go : Bool) : ∀ u ∈ six k sp sl sc kp kl kc nu en go, u.oneCell' = true := by
 intro u hu
 simp only [six, List.mem_cons, List.not_mem_nil, or_false] at hu
 rcases hu with rfl | rfl | rfl | rfl | rfl | rfl <;> rfl
theorem own_cell8 {W : World} {B n : Nat} {v : Value} {xs : List Value} (h : W.ownsRow B 148 6 v n xs) (hn : 0 < n) : ∃ g cap, v = .slice (some ⟨g, 0, none⟩) n cap ∧ Row W g ∧ B ≤ g ∧ v.ownBlock = some g ∧ ∀ j, j < xs.length → W.cell? ⟨g, j, none⟩ = xs[j]? := by
 obtain ⟨h1, h2 | ⟨g, cp, cur, rfl, h4, h5, h6, h7, h8, h9⟩⟩ := h
 · omega
 · refine ⟨g, cp, rfl, ⟨cur, h5⟩, h4, rfl, fun j hj => ?_⟩
   have e : (cur.toList.take (n * 6))[j]? = xs[j]? := by rw [h9]
   rw [List.getElem?_take, if_pos (by omega)] at e
   simp only [World.cell?, h5]
   rw [← e]
   simp
theorem c6_of {W : World} {g o : Nat} {k : Int} {sp : Option Addr} {sl sc : Nat} {kp : Option Addr} {kl kc : Nat} {nu en go : Bool} (h : ∀ j, j < 6 → W.cell? ⟨g, o + j, none⟩ = (six k sp sl sc kp kl kc nu en go)[j]?) : C6 W g o k (.slice sp sl sc) (.slice kp kl kc) nu en go :=
 ⟨h 0 (by omega), h 1 (by omega), h 2 (by omega), h 3 (by omega), h 4 (by omega), h 5 (by omega)⟩
theorem c5_at {w W : World} {b o : Nat} {d : ND} (h : Cells5 w b o d.v) (hB : Below w.heap.size w W) : W.cell? ⟨b, o, none⟩ = some (.int .i64 d.k) ∧ W.cell? ⟨b, o + 1, none⟩ = some (.int .i64 d.a) ∧ W.cell? ⟨b, o + 2, none⟩ = some (.slice d.sp d.sl d.sc) ∧ W.cell? ⟨b, o + 3, none⟩ = some (.string d.n) ∧ W.cell? ⟨b, o + 4, none⟩ = some (.slice d.kp d.kl d.kc) := by
 have hb := cells5_lt h
 obtain ⟨c0, c1, c2, c3, c4, e, h0, h1, h2, h3, h4⟩ := h
 have k : ∀ j, W.cell? ⟨b, j, none⟩ = w.cell? ⟨b, j, none⟩ := fun j => hB.cell (p := ⟨b, j, none⟩) hb
 unfold ND.v at e
 simp only [Value.agg.injEq, Array.mk.injEq, List.cons.injEq, and_true] at e
 obtain ⟨rfl, rfl, rfl, rfl, rfl⟩ := e
 exact ⟨by rw [k]; exact h0, by rw [k]; exact h1, by rw [k]; exact h2, by rw [k]; exact h3, by rw [k]; exact h4⟩
set_option maxRecDepth 100000 in
set_option maxHeartbeats 1000000 in
theorem parts_none (h : Nat) (kp : Option Addr) (kc : Nat) (W : World) :
   Calls Tryz.prog 98 #[.slice kp 0 kc, .func (.func h) #[] #[]] W fun e W' => e = .returned (.slice none 0 0) ∧ W' = W := by
 go_enter Tryz.func98, Tryz.ntmps98
 go_wp2
 go_loopw [5, 10] (fun u v wr => u = .slice none 0 0 ∧ v = .int .i64 0 ∧ wr = W) (fun _ _ _ => 0)
 case atStart => exact ⟨rfl, rfl, rfl⟩
 case round =>
   obtain ⟨rfl, rfl, rfl⟩ := hrel
   go_wp2
   go_ret
   exact ⟨rfl, rfl⟩
def Mk (w0 w : World) (p : Ps) (lo hi : Nat) (cs : List Value) : Prop :=
 ∃ k sp sl sc kp kl kc nu en go, cs = six k sp sl sc kp kl kc nu en go ∧ ∀ V b o, C6 V b o k (.slice sp sl sc) (.slice kp kl kc) nu en go → (∀ i, lo ≤ i → i < hi → V.heap[i]? = w.heap[i]?) → PR w0 V p b o lo hi
theorem Mk.at {w0 w V : World} {p : Ps} {lo hi g o : Nat} {cs : List Value} (h : Mk w0 w p lo hi cs) (hc : ∀ j, j < 6 → V.cell? ⟨g, o + j, none⟩ = cs[j]?) (hb : ∀ i, lo ≤ i → i < hi → V.heap[i]? = w.heap[i]?) : PR w0 V p g o lo hi := by
 obtain ⟨k, sp, sl, sc, kp, kl, kc, nu, en, go, rfl, h⟩ := h
 exact h V g o (c6_of hc) hb
theorem Mk.later {w0 w w' : World} {p : Ps} {lo hi : Nat} {cs : List Value} (h : Mk w0 w p lo hi cs) (hb : ∀ i, lo ≤ i → i < hi → w'.heap[i]? = w.heap[i]?) : Mk w0 w' p lo hi cs := by
 obtain ⟨k, sp, sl, sc, kp, kl, kc, nu, en, go, e, h⟩ := h
 exact ⟨k, sp, sl, sc, kp, kl, kc, nu, en, go, e, fun V b o c hv => h V b o c (fun i h1 h2 => (hv i h1 h2).trans (hb i h1 h2))⟩
theorem Mk.len {w0 w : World} {p : Ps} {lo hi : Nat} {cs : List Value} (h : Mk w0 w p lo hi cs) : cs.length = 6 := by
 obtain ⟨k, sp, sl, sc, kp, kl, kc, nu, en, go, rfl, h⟩ := h
 rfl
def One (w0 W : World) (p : Ps) (u : Value) (wr : World) : Prop :=
 ∃ cs lo hi, W.heap.size ≤ lo ∧ lo ≤ hi ∧ Mk w0 wr p lo hi cs ∧ wr.ownsRow hi 148 6 u 1 cs ∧ Below W.heap.size W wr
theorem one_step {w0 W w1 w2 w3 : World} {p : Ps} {v' : Value} {tmp : Obj} {cs : List Value} (hm : Mk w0 w2 p w1.heap.size w2.heap.size cs) (hown : w3.ownsRow w2.heap.size 148 6 v' 1 cs) (hg : (w2.alloc tmp).grownBy w3 none) (hb : Below W.heap.size W w2) (hl : W.heap.size ≤ w1.heap.size) (h12 : w1.heap.size ≤ w2.heap.size) : One w0 W p v' w3 := by
 have h23 : ∀ i, i < w2.heap.size → w3.heap[i]? = w2.heap[i]? := fun i hi => (hg.block i (by simp; omega) (by simp)).trans (Below.heap_alloc _ _ _ hi)
 refine ⟨cs, w1.heap.size, w2.heap.size, hl, h12, hm.later (fun i _ hi => h23 i hi), hown, hb.trans ⟨hg.os, hg.tape, hg.output, Nat.le_trans (by simp) hg.size, fun i hi => h23 i (by omega)⟩⟩
theorem one_end {w0 W wr : World} {p : Ps} {u : Value} (h : One w0 W p u wr) : ∃ g cap h1, u = .slice (some ⟨g, 0, none⟩) 1 cap ∧ Row wr g ∧ PR w0 wr p g 0 W.heap.size h1 ∧ W.heap.size ≤ g ∧ h1 ≤ g ∧ Below W.heap.size W wr := by
 obtain ⟨cs, lo, hi, h1, h2, hm, ho, hb⟩ := h
 obtain ⟨g, cap, rfl, hr, hg, _, hc⟩ := own_cell8 ho (by omega)
 refine ⟨g, cap, hi, rfl, hr, (hm.at (fun j hj => ?_) (fun _ _ _ => rfl)).wide h1 (Nat.le_refl _), by omega, hg, hb⟩
 rw [Nat.zero_add]
 exact hc j (by rw [hm.len]; exact hj)
def SL (W : World) (g o : Nat) : Prop := ∃ k sp sl sc kp kl kc nu en go, C6 W g o k (.slice sp sl sc) (.slice kp kl kc) nu en go
theorem SL.keep {W W' : World} {g o : Nat} (h : SL W g o) (hb : W'.heap[g]? = W.heap[g]?) : SL W' g o := by
 obtain ⟨k, sp, sl, sc, kp, kl, kc, nu, en, go, h⟩ := h
 exact ⟨k, sp, sl, sc, kp, kl, kc, nu, en, go, h.keep (fun j _ => cell_blk hb _)⟩
theorem Mk.sl {w0 w V : World} {p : Ps} {lo hi g o : Nat} {cs : List Value} (h : Mk w0 w p lo hi cs) (hc : ∀ j, j < 6 → V.cell? ⟨g, o + j, none⟩ = cs[j]?) : SL V g o := by
 obtain ⟨k, sp, sl, sc, kp, kl, kc, nu, en, go, rfl, h⟩ := h
 exact ⟨k, sp, sl, sc, kp, kl, kc, nu, en, go, c6_of hc⟩
def Two (w0 W : World) (p q : Ps) (u : Value) (wr : World) : Prop := ∃ g cap l1 h1 l2 h2, u = .slice (some ⟨g, 0, none⟩) 2 cap ∧ Row wr g ∧ PR w0 wr p g 0 l1 h1 ∧ PR w0 wr q g 6 l2 h2 ∧ (W.heap.size ≤ l1 ∧ h1 ≤ wr.heap.size ∧ (g < l1 ∨ h1 ≤ g)) ∧ (W.heap.size ≤ l2 ∧ h2 ≤ wr.heap.size ∧ (g < l2 ∨ h2 ≤ g)) ∧ (h1 ≤ l2 ∨ h2 ≤ l1) ∧ W.heap.size ≤ g ∧ g < wr.heap.size ∧ Below W.heap.size W wr ∧ SL wr g 0 ∧ SL wr g 6
theorem two_step {w0 W w1 w2 w3 : World} {p q : Ps} {u v' : Value} {tmp : Obj} {cs1 cs2 : List Value} {lo hi : Nat} (h1 : W.heap.size ≤ lo) (h2 : lo ≤ hi) (hm1 : Mk w0 w2 p lo hi cs1) (ho1 : w1.ownsRow hi 148 6 u 1 cs1)
   (hm : Mk w0 w2 q w1.heap.size w2.heap.size cs2) (hown : w3.ownsRow hi 148 6 v' (1 + 1) (cs1 ++ cs2)) (hg : (w2.alloc tmp).grownBy w3 u.ownBlock) (hat : v'.ownBlock = u.ownBlock ∨ v'.ownBlock = some (w2.alloc tmp).heap.size) (hb : Below W.heap.size W w2) (hl : hi ≤ w1.heap.size) (h12 : w1.heap.size ≤ w2.heap.size) : Two w0 W p q v' w3 := by
 obtain ⟨g1, cap1, rfl, hr1, hg1, _, _⟩ := own_cell8 ho1 (by omega)
 have hlt := hr1.lt
 obtain ⟨g, cap, rfl, hr, hgb, _, hc⟩ := own_cell8 hown (by omega)
 have hne : ∀ i, i < w2.heap.size → i ≠ g1 → w3.heap[i]? = w2.heap[i]? := fun i hi hn => (hg.block i (by simp; omega) (by simp [Value.ownBlock]; omega)).trans (Below.heap_alloc _ _ _ hi)
 have hs3 : w2.heap.size + 1 ≤ w3.heap.size := by have := hg.size; simp at this; omega
 have hga : g = g1 ∨ w2.heap.size ≤ g := by
   rcases hat with h | h
   · left; simpa [Value.ownBlock] using h
   · right; simp [Value.ownBlock] at h; omega
 have hl1 := hm1.len
 have hl2 := hm.len
 have k1 : ∀ j, j < 6 → w3.cell? ⟨g, 0 + j, none⟩ = cs1[j]? := fun j hj => by
   rw [Nat.zero_add, hc j (by rw [List.length_append]; omega), List.getElem?_append_left (by omega)]
 have k2 : ∀ j, j < 6 → w3.cell? ⟨g, 6 + j, none⟩ = cs2[j]? := fun j hj => by
   rw [hc (6 + j) (by rw [List.length_append]; omega), List.getElem?_append_right (by omega)]
   congr 1
   omega
 exact ⟨g, cap, lo, hi, w1.heap.size, w2.heap.size, rfl, hr, hm1.at k1 (fun i _ hi' => hne i (by omega) (by omega)), hm.at k2 (fun i hi' hi'' => hne i hi'' (by omega)), ⟨h1, by omega, by omega⟩, ⟨by omega, by omega, by omega⟩, .inl hl, by omega, hr.lt, hb.trans ⟨hg.os, hg.tape, hg.output, by omega, fun i hi' => hne i (by have := hb.size; omega) (by omega)⟩, hm1.sl k1, hm.sl k2⟩
theorem elemSize24F (w : World) : (sizeOf (Tryz.prog.elem 24)).run Tryz.prog w = .ok 5 w := by kernel_rfl
set_option maxRecDepth 100000 in
set_option maxHeartbeats 2000000 in
theorem parts_one66 (f : T → Ps) (x0 : T) (hx0 : HowC 66 f x0) (w0 W : World) (kp : Option Addr) (kc : Nat) (hK : KR w0 (fun _ => True) [x0] kp 0) (hB : Below w0.heap.size w0 W) :
   Calls Tryz.prog 98 #[.slice kp 1 kc, .func (.func 66) #[] #[]] W fun e W' => ∃ u, e = .returned u ∧ One w0 W (f x0) u W' := by
 rw [KR] at hK
 obtain ⟨⟨b, off, v, rfl, _, hT0, hC0⟩, _⟩ := hK
 rw [show off + 0 * 5 = off by omega] at hC0
 obtain ⟨d0, rfl, hdd⟩ := hT0.nd
 clear hdd
 have hbl0 := cells5_lt hC0
 obtain ⟨i0, hi0, hz0, hz1, hz2⟩ := info_parts8 info148
 have es := elemSize24F
 go_enter Tryz.func98, Tryz.ntmps98
 go_wp2
 go_loopw [5, 10] (fun u v wr => (u = .slice none 0 0 ∧ v = .int .i64 0 ∧ Below W.heap.size W wr) ∨ (v = .int .i64 1 ∧ One w0 W (f x0) u wr)) (fun _ v _ => 1 - (intOf v).toNat)
 case atStart => exact .inl ⟨rfl, rfl, Below.refl _ _⟩
 case round =>
   rcases hrel with ⟨rfl, rfl, hB2⟩ | ⟨rfl, ho⟩
   · have hB1 : Below w0.heap.size w0 wr := hB.trans (hB2.mono hB.size)
     obtain ⟨c0, c1, c2, c3, c4⟩ := c5_at hC0 hB1
     have a1 := al1 wr (.cells #[.int .i64 d0.k, .int .i64 d0.a, .slice d0.sp d0.sl d0.sc, .string d0.n, .slice d0.kp d0.kl d0.kc] 26)
     have hcall := hx0 w0 (wr.alloc (.cells #[.int .i64 d0.k, .int .i64 d0.a, .slice d0.sp d0.sl d0.sc, .string d0.n, .slice d0.kp d0.kl d0.kc] 26)) d0 hT0 (hB1.trans (a1.mono hB1.size))
     have hbW : b < wr.heap.size := by have := hB1.size; omega
     unfold ND.v at hcall
     go_wp2_with fail
     refine hcall.mono ?_
     rintro e w2 ⟨v, rfl, hpv, hb2⟩
     obtain ⟨k, sp, sl, sc, kp, kl, kc, nu, en, go, rfl, hmk⟩ := hpv
     have z1 := World.size_alloc wr (.cells #[.int .i64 d0.k, .int .i64 d0.a, .slice d0.sp d0.sl d0.sc, .string d0.n, .slice d0.kp d0.kl d0.kc] 26)
     have z2 := hb2.size
     have bb := nx a1 hb2
     have HMK : Hid (Mk w0 w2 (f x0) (wr.alloc (.cells #[.int .i64 d0.k, .int .i64 d0.a, .slice d0.sp d0.sl d0.sc, .string d0.n, .slice d0.kp d0.kl d0.kc] 26)).heap.size w2.heap.size (six k sp sl sc kp kl kc nu en go)) := hide ⟨k, sp, sl, sc, kp, kl, kc, nu, en, go, rfl, hmk⟩
     unfold six
     clear hcall c0 c1 c2 c3 c4 hmk
     go_wp2_with (at_builtin; refine wpList_append_own_at _ rfl _ _ 146 rfl w2.heap.size 148 i0 _ 6 64 Tryz.underlying146 hi0 hz0 hz1 hz2 rfl (by decide) (.slice none 0 0) 0 [] rfl (World.ownsRow_nil _ _ _ _) ⟨w2.heap.size, 0, none⟩ 1 1 (six k sp sl sc kp kl kc nu en go) rfl rfl (new_cells8 _ _ _ _ rfl) (six_one _ _ _ _ _ _ _ _ _ _) (by unfold maxLen; omega) (by omega) (by have := z2; simp; try omega) ?_; intro v' w3 hown hgrow _ hat)
     have ho := one_step HMK.out hown hgrow (hB2.trans (bb.mono hB2.size)) (by have := hB2.size; omega) z2
     go_roundw
     case rel => exact .inr ⟨by first | rfl | go_num, ho⟩
     case measure => simp [intOf]
   · obtain ⟨g, cap, h1, rfl, _⟩ := one_end ho
     have HO := hide ho
     clear ho
     go_wp2
     go_ret
     exact ⟨_, rfl, HO.out⟩
set_option maxRecDepth 100000 in
set_option maxHeartbeats 2000000 in
theorem parts_two66 (f : T → Ps) (x0 x1 : T) (hx0 : HowC 66 f x0) (hx1 : HowC 66 f x1) (w0 W : World) (kp : Option Addr) (kc : Nat) (hK : KR w0 (fun _ => True) [x0, x1] kp 0) (hB : Below w0.heap.size w0 W) :
   Calls Tryz.prog 98 #[.slice kp 2 kc, .func (.func 66) #[] #[]] W fun e W' => ∃ u, e = .returned u ∧ Two w0 W (f x0) (f x1) u W' := by
 rw [KR, KR] at hK
 obtain ⟨⟨b, off, v, rfl, _, hT0, hC0⟩, ⟨b', off', v1, e1, _, hT1, hC1⟩, _⟩ := hK
 cases e1
 rw [show off + 0 * 5 = off by omega] at hC0
 rw [show off + (0 + 1) * 5 = off + 5 by omega] at hC1
 obtain ⟨d0, rfl, hdd⟩ := hT0.nd
 clear hdd
 have hbl0 := cells5_lt hC0
 obtain ⟨d1, rfl, hdd⟩ := hT1.nd
 clear hdd
 have hbl1 := cells5_lt hC1
 obtain ⟨i0, hi0, hz0, hz1, hz2⟩ := info_parts8 info148
 have es := elemSize24F
 go_enter Tryz.func98, Tryz.ntmps98
 go_wp2
 go_loopw [5, 10] (fun u v wr => (u = .slice none 0 0 ∧ v = .int .i64 0 ∧ Below W.heap.size W wr) ∨ (v = .int .i64 1 ∧ One w0 W (f x0) u wr) ∨ (v = .int .i64 2 ∧ Two w0 W (f x0) (f x1) u wr)) (fun _ v _ => 2 - (intOf v).toNat)
 case atStart => exact .inl ⟨rfl, rfl, Below.refl _ _⟩
 case round =>
   rcases hrel with ⟨rfl, rfl, hB2⟩ | ⟨rfl, ho⟩ | ⟨rfl, ho⟩
   · have hB1 : Below w0.heap.size w0 wr := hB.trans (hB2.mono hB.size)
     obtain ⟨c0, c1, c2, c3, c4⟩ := c5_at hC0 hB1
     have a1 := al1 wr (.cells #[.int .i64 d0.k, .int .i64 d0.a, .slice d0.sp d0.sl d0.sc, .string d0.n, .slice d0.kp d0.kl d0.kc] 26)
     have hcall := hx0 w0 (wr.alloc (.cells #[.int .i64 d0.k, .int .i64 d0.a, .slice d0.sp d0.sl d0.sc, .string d0.n, .slice d0.kp d0.kl d0.kc] 26)) d0 hT0 (hB1.trans (a1.mono hB1.size))
     have hbW : b < wr.heap.size := by have := hB1.size; omega
     unfold ND.v at hcall
     go_wp2_with fail
     refine hcall.mono ?_
     rintro e w2 ⟨v, rfl, hpv, hb2⟩
     obtain ⟨k, sp, sl, sc, kp, kl, kc, nu, en, go, rfl, hmk⟩ := hpv
     have z1 := World.size_alloc wr (.cells #[.int .i64 d0.k, .int .i64 d0.a, .slice d0.sp d0.sl d0.sc, .string d0.n, .slice d0.kp d0.kl d0.kc] 26)
     have z2 := hb2.size
     have bb := nx a1 hb2
     have HMK : Hid (Mk w0 w2 (f x0) (wr.alloc (.cells #[.int .i64 d0.k, .int .i64 d0.a, .slice d0.sp d0.sl d0.sc, .string d0.n, .slice d0.kp d0.kl d0.kc] 26)).heap.size w2.heap.size (six k sp sl sc kp kl kc nu en go)) := hide ⟨k, sp, sl, sc, kp, kl, kc, nu, en, go, rfl, hmk⟩
     unfold six
     clear hcall c0 c1 c2 c3 c4 hmk
     go_wp2_with (at_builtin; refine wpList_append_own_at _ rfl _ _ 146 rfl w2.heap.size 148 i0 _ 6 64 Tryz.underlying146 hi0 hz0 hz1 hz2 rfl (by decide) (.slice none 0 0) 0 [] rfl (World.ownsRow_nil _ _ _ _) ⟨w2.heap.size, 0, none⟩ 1 1 (six k sp sl sc kp kl kc nu en go) rfl rfl (new_cells8 _ _ _ _ rfl) (six_one _ _ _ _ _ _ _ _ _ _) (by unfold maxLen; omega) (by omega) (by have := z2; simp; try omega) ?_; intro v' w3 hown hgrow _ hat)
     have ho := one_step HMK.out hown hgrow (hB2.trans (bb.mono hB2.size)) (by have := hB2.size; omega) z2
     go_roundw
     case rel => exact .inr (.inl ⟨by first | rfl | go_num, ho⟩)
     case measure => simp [intOf]
   · obtain ⟨cs1, lo, hi, hlo, hlh, hm1, ho1, hB2⟩ := ho
     obtain ⟨g, cap, rfl, hr1, hg1, _, _⟩ := own_cell8 ho1 (by omega)
     have hlt := hr1.lt
     have hB1 : Below w0.heap.size w0 wr := hB.trans (hB2.mono hB.size)
     have HO1 := hide ho1
     have HM1 := hide hm1
     clear hm1 ho1
     obtain ⟨c0, c1, c2, c3, c4⟩ := c5_at hC1 hB1
     have a1 := al1 wr (.cells #[.int .i64 d1.k, .int .i64 d1.a, .slice d1.sp d1.sl d1.sc, .string d1.n, .slice d1.kp d1.kl d1.kc] 26)
     have hcall := hx1 w0 (wr.alloc (.cells #[.int .i64 d1.k, .int .i64 d1.a, .slice d1.sp d1.sl d1.sc, .string d1.n, .slice d1.kp d1.kl d1.kc] 26)) d1 hT1 (hB1.trans (a1.mono hB1.size))
     have hbW : b < wr.heap.size := by have := hB1.size; omega
     unfold ND.v at hcall
     go_wp2_with fail
     refine hcall.mono ?_
     rintro e w2 ⟨v, rfl, hpv, hb2⟩
     obtain ⟨k, sp, sl, sc, kp, kl, kc, nu, en, go, rfl, hmk⟩ := hpv
     have z1 := World.size_alloc wr (.cells #[.int .i64 d1.k, .int .i64 d1.a, .slice d1.sp d1.sl d1.sc, .string d1.n, .slice d1.kp d1.kl d1.kc] 26)
     have z2 := hb2.size
     have bb := nx a1 hb2
     have HMK : Hid (Mk w0 w2 (f x1) (wr.alloc (.cells #[.int .i64 d1.k, .int .i64 d1.a, .slice d1.sp d1.sl d1.sc, .string d1.n, .slice d1.kp d1.kl d1.kc] 26)).heap.size w2.heap.size (six k sp sl sc kp kl kc nu en go)) := hide ⟨k, sp, sl, sc, kp, kl, kc, nu, en, go, rfl, hmk⟩
     unfold six
     clear hcall c0 c1 c2 c3 c4 hmk
     go_wp2_with (at_builtin; refine wpList_append_own_at _ rfl _ _ 146 rfl hi 148 i0 _ 6 64 Tryz.underlying146 hi0 hz0 hz1 hz2 rfl (by decide) (.slice (some ⟨g, 0, none⟩) 1 cap) 1 cs1 rfl (HO1.out.kept (grown_below (bb.trans ((al1 w2 _).mono bb.size)) none) (by simp [Value.ownBlock])) ⟨w2.heap.size, 0, none⟩ 1 1 (six k sp sl sc kp kl kc nu en go) rfl rfl (new_cells8 _ _ _ _ rfl) (six_one _ _ _ _ _ _ _ _ _ _) (by unfold maxLen; omega) (by omega) (by have := z2; simp; try omega) ?_; intro v' w3 hown hgrow _ hat)
     have ho := two_step hlo hlh (HM1.out.later (fun i _ hi => ((nx a1 hb2).block i (by omega)))) (HO1.out.kept (grown_below a1 none) (by simp [Value.ownBlock])) HMK.out hown hgrow hat (hB2.trans (bb.mono hB2.size)) (by omega) z2
     go_roundw
     case rel => exact .inr (.inr ⟨by first | rfl | go_num, ho⟩)
     case measure => simp [intOf]
   · obtain ⟨g, cap, l1, h1, l2, h2, rfl, _⟩ := id ho
     have HO := hide ho
     clear ho
     go_wp2
     go_ret
     exact ⟨_, rfl, HO.out⟩
set_option maxRecDepth 100000 in
set_option maxHeartbeats 2000000 in
theorem parts_one69 (f : T → Ps) (x0 : T) (hx0 : HowC 69 f x0) (w0 W : World) (kp : Option Addr) (kc : Nat) (hK : KR w0 (fun _ => True) [x0] kp 0) (hB : Below w0.heap.size w0 W) :
   Calls Tryz.prog 98 #[.slice kp 1 kc, .func (.func 69) #[] #[]] W fun e W' => ∃ u, e = .returned u ∧ One w0 W (f x0) u W' := by
 rw [KR] at hK
 obtain ⟨⟨b, off, v, rfl, _, hT0, hC0⟩, _⟩ := hK
 rw [show off + 0 * 5 = off by omega] at hC0
 obtain ⟨d0, rfl, hdd⟩ := hT0.nd
 clear hdd
 have hbl0 := cells5_lt hC0
 obtain ⟨i0, hi0, hz0, hz1, hz2⟩ := info_parts8 info148
 have es := elemSize24F
 go_enter Tryz.func98, Tryz.ntmps98
 go_wp2
 go_loopw [5, 10] (fun u v wr => (u = .slice none 0 0 ∧ v = .int .i64 0 ∧ Below W.heap.size W wr) ∨ (v = .int .i64 1 ∧ One w0 W (f x0) u wr)) (fun _ v _ => 1 - (intOf v).toNat)
 case atStart => exact .inl ⟨rfl, rfl, Below.refl _ _⟩
 case round =>
   rcases hrel with ⟨rfl, rfl, hB2⟩ | ⟨rfl, ho⟩
   · have hB1 : Below w0.heap.size w0 wr := hB.trans (hB2.mono hB.size)
     obtain ⟨c0, c1, c2, c3, c4⟩ := c5_at hC0 hB1
     have a1 := al1 wr (.cells #[.int .i64 d0.k, .int .i64 d0.a, .slice d0.sp d0.sl d0.sc, .string d0.n, .slice d0.kp d0.kl d0.kc] 26)
     have hcall := hx0 w0 (wr.alloc (.cells #[.int .i64 d0.k, .int .i64 d0.a, .slice d0.sp d0.sl d0.sc, .string d0.n, .slice d0.kp d0.kl d0.kc] 26)) d0 hT0 (hB1.trans (a1.mono hB1.size))
     have hbW : b < wr.heap.size := by have := hB1.size; omega
     unfold ND.v at hcall
     go_wp2_with fail
     refine hcall.mono ?_
     rintro e w2 ⟨v, rfl, hpv, hb2⟩
     obtain ⟨k, sp, sl, sc, kp, kl, kc, nu, en, go, rfl, hmk⟩ := hpv
     have z1 := World.size_alloc wr (.cells #[.int .i64 d0.k, .int .i64 d0.a, .slice d0.sp d0.sl d0.sc, .string d0.n, .slice d0.kp d0.kl d0.kc] 26)
     have z2 := hb2.size
     have bb := nx a1 hb2
     have HMK : Hid (Mk w0 w2 (f x0) (wr.alloc (.cells #[.int .i64 d0.k, .int .i64 d0.a, .slice d0.sp d0.sl d0.sc, .string d0.n, .slice d0.kp d0.kl d0.kc] 26)).heap.size w2.heap.size (six k sp sl sc kp kl kc nu en go)) := hide ⟨k, sp, sl, sc, kp, kl, kc, nu, en, go, rfl, hmk⟩
     unfold six
     clear hcall c0 c1 c2 c3 c4 hmk
     go_wp2_with (at_builtin; refine wpList_append_own_at _ rfl _ _ 146 rfl w2.heap.size 148 i0 _ 6 64 Tryz.underlying146 hi0 hz0 hz1 hz2 rfl (by decide) (.slice none 0 0) 0 [] rfl (World.ownsRow_nil _ _ _ _) ⟨w2.heap.size, 0, none⟩ 1 1 (six k sp sl sc kp kl kc nu en go) rfl rfl (new_cells8 _ _ _ _ rfl) (six_one _ _ _ _ _ _ _ _ _ _) (by unfold maxLen; omega) (by omega) (by have := z2; simp; try omega) ?_; intro v' w3 hown hgrow _ hat)
     have ho := one_step HMK.out hown hgrow (hB2.trans (bb.mono hB2.size)) (by have := hB2.size; omega) z2
     go_roundw
     case rel => exact .inr ⟨by first | rfl | go_num, ho⟩
     case measure => simp [intOf]
   · obtain ⟨g, cap, h1, rfl, _⟩ := one_end ho
     have HO := hide ho
     clear ho
     go_wp2
     go_ret
     exact ⟨_, rfl, HO.out⟩
set_option maxRecDepth 100000 in
set_option maxHeartbeats 2000000 in
theorem parts_two69 (f : T → Ps) (x0 x1 : T) (hx0 : HowC 69 f x0) (hx1 : HowC 69 f x1) (w0 W : World) (kp : Option Addr) (kc : Nat) (hK : KR w0 (fun _ => True) [x0, x1] kp 0) (hB : Below w0.heap.size w0 W) :
   Calls Tryz.prog 98 #[.slice kp 2 kc, .func (.func 69) #[] #[]] W fun e W' => ∃ u, e = .returned u ∧ Two w0 W (f x0) (f x1) u W' := by
 rw [KR, KR] at hK
 obtain ⟨⟨b, off, v, rfl, _, hT0, hC0⟩, ⟨b', off', v1, e1, _, hT1, hC1⟩, _⟩ := hK
 cases e1
 rw [show off + 0 * 5 = off by omega] at hC0
 rw [show off + (0 + 1) * 5 = off + 5 by omega] at hC1
 obtain ⟨d0, rfl, hdd⟩ := hT0.nd
 clear hdd
 have hbl0 := cells5_lt hC0
 obtain ⟨d1, rfl, hdd⟩ := hT1.nd
 clear hdd
 have hbl1 := cells5_lt hC1
 obtain ⟨i0, hi0, hz0, hz1, hz2⟩ := info_parts8 info148
 have es := elemSize24F
 go_enter Tryz.func98, Tryz.ntmps98
 go_wp2
 go_loopw [5, 10] (fun u v wr => (u = .slice none 0 0 ∧ v = .int .i64 0 ∧ Below W.heap.size W wr) ∨ (v = .int .i64 1 ∧ One w0 W (f x0) u wr) ∨ (v = .int .i64 2 ∧ Two w0 W (f x0) (f x1) u wr)) (fun _ v _ => 2 - (intOf v).toNat)
 case atStart => exact .inl ⟨rfl, rfl, Below.refl _ _⟩
 case round =>
   rcases hrel with ⟨rfl, rfl, hB2⟩ | ⟨rfl, ho⟩ | ⟨rfl, ho⟩
   · have hB1 : Below w0.heap.size w0 wr := hB.trans (hB2.mono hB.size)
     obtain ⟨c0, c1, c2, c3, c4⟩ := c5_at hC0 hB1
     have a1 := al1 wr (.cells #[.int .i64 d0.k, .int .i64 d0.a, .slice d0.sp d0.sl d0.sc, .string d0.n, .slice d0.kp d0.kl d0.kc] 26)
     have hcall := hx0 w0 (wr.alloc (.cells #[.int .i64 d0.k, .int .i64 d0.a, .slice d0.sp d0.sl d0.sc, .string d0.n, .slice d0.kp d0.kl d0.kc] 26)) d0 hT0 (hB1.trans (a1.mono hB1.size))
     have hbW : b < wr.heap.size := by have := hB1.size; omega
     unfold ND.v at hcall
     go_wp2_with fail
     refine hcall.mono ?_
     rintro e w2 ⟨v, rfl, hpv, hb2⟩
     obtain ⟨k, sp, sl, sc, kp, kl, kc, nu, en, go, rfl, hmk⟩ := hpv
     have z1 := World.size_alloc wr (.cells #[.int .i64 d0.k, .int .i64 d0.a, .slice d0.sp d0.sl d0.sc, .string d0.n, .slice d0.kp d0.kl d0.kc] 26)
     have z2 := hb2.size
     have bb := nx a1 hb2
     have HMK : Hid (Mk w0 w2 (f x0) (wr.alloc (.cells #[.int .i64 d0.k, .int .i64 d0.a, .slice d0.sp d0.sl d0.sc, .string d0.n, .slice d0.kp d0.kl d0.kc] 26)).heap.size w2.heap.size (six k sp sl sc kp kl kc nu en go)) := hide ⟨k, sp, sl, sc, kp, kl, kc, nu, en, go, rfl, hmk⟩
     unfold six
     clear hcall c0 c1 c2 c3 c4 hmk
     go_wp2_with (at_builtin; refine wpList_append_own_at _ rfl _ _ 146 rfl w2.heap.size 148 i0 _ 6 64 Tryz.underlying146 hi0 hz0 hz1 hz2 rfl (by decide) (.slice none 0 0) 0 [] rfl (World.ownsRow_nil _ _ _ _) ⟨w2.heap.size, 0, none⟩ 1 1 (six k sp sl sc kp kl kc nu en go) rfl rfl (new_cells8 _ _ _ _ rfl) (six_one _ _ _ _ _ _ _ _ _ _) (by unfold maxLen; omega) (by omega) (by have := z2; simp; try omega) ?_; intro v' w3 hown hgrow _ hat)
     have ho := one_step HMK.out hown hgrow (hB2.trans (bb.mono hB2.size)) (by have := hB2.size; omega) z2
     go_roundw
     case rel => exact .inr (.inl ⟨by first | rfl | go_num, ho⟩)
     case measure => simp [intOf]
   · obtain ⟨cs1, lo, hi, hlo, hlh, hm1, ho1, hB2⟩ := ho
     obtain ⟨g, cap, rfl, hr1, hg1, _, _⟩ := own_cell8 ho1 (by omega)
     have hlt := hr1.lt
     have hB1 : Below w0.heap.size w0 wr := hB.trans (hB2.mono hB.size)
     have HO1 := hide ho1
     have HM1 := hide hm1
     clear hm1 ho1
     obtain ⟨c0, c1, c2, c3, c4⟩ := c5_at hC1 hB1
     have a1 := al1 wr (.cells #[.int .i64 d1.k, .int .i64 d1.a, .slice d1.sp d1.sl d1.sc, .string d1.n, .slice d1.kp d1.kl d1.kc] 26)
     have hcall := hx1 w0 (wr.alloc (.cells #[.int .i64 d1.k, .int .i64 d1.a, .slice d1.sp d1.sl d1.sc, .string d1.n, .slice d1.kp d1.kl d1.kc] 26)) d1 hT1 (hB1.trans (a1.mono hB1.size))
     have hbW : b < wr.heap.size := by have := hB1.size; omega
     unfold ND.v at hcall
     go_wp2_with fail
     refine hcall.mono ?_
     rintro e w2 ⟨v, rfl, hpv, hb2⟩
     obtain ⟨k, sp, sl, sc, kp, kl, kc, nu, en, go, rfl, hmk⟩ := hpv
     have z1 := World.size_alloc wr (.cells #[.int .i64 d1.k, .int .i64 d1.a, .slice d1.sp d1.sl d1.sc, .string d1.n, .slice d1.kp d1.kl d1.kc] 26)
     have z2 := hb2.size
     have bb := nx a1 hb2
     have HMK : Hid (Mk w0 w2 (f x1) (wr.alloc (.cells #[.int .i64 d1.k, .int .i64 d1.a, .slice d1.sp d1.sl d1.sc, .string d1.n, .slice d1.kp d1.kl d1.kc] 26)).heap.size w2.heap.size (six k sp sl sc kp kl kc nu en go)) := hide ⟨k, sp, sl, sc, kp, kl, kc, nu, en, go, rfl, hmk⟩
     unfold six
     clear hcall c0 c1 c2 c3 c4 hmk
     go_wp2_with (at_builtin; refine wpList_append_own_at _ rfl _ _ 146 rfl hi 148 i0 _ 6 64 Tryz.underlying146 hi0 hz0 hz1 hz2 rfl (by decide) (.slice (some ⟨g, 0, none⟩) 1 cap) 1 cs1 rfl (HO1.out.kept (grown_below (bb.trans ((al1 w2 _).mono bb.size)) none) (by simp [Value.ownBlock])) ⟨w2.heap.size, 0, none⟩ 1 1 (six k sp sl sc kp kl kc nu en go) rfl rfl (new_cells8 _ _ _ _ rfl) (six_one _ _ _ _ _ _ _ _ _ _) (by unfold maxLen; omega) (by omega) (by have := z2; simp; try omega) ?_; intro v' w3 hown hgrow _ hat)
     have ho := two_step hlo hlh (HM1.out.later (fun i _ hi => ((nx a1 hb2).block i (by omega)))) (HO1.out.kept (grown_below a1 none) (by simp [Value.ownBlock])) HMK.out hown hgrow hat (hB2.trans (bb.mono hB2.size)) (by omega) z2
     go_roundw
     case rel => exact .inr (.inr ⟨by first | rfl | go_num, ho⟩)
     case measure => simp [intOf]
   · obtain ⟨g, cap, l1, h1, l2, h2, rfl, _⟩ := id ho
     have HO := hide ho
     clear ho
     go_wp2
     go_ret
     exact ⟨_, rfl, HO.out⟩
def putP (w : World) (b : Nat) (v0 v1 v2 v3 v4 v5 : Value) : World := (((((w.setCell ⟨b, 0, none⟩ v0).setCell ⟨b, 1, none⟩ v1).setCell ⟨b, 2, none⟩ v2).setCell ⟨b, 3, none⟩ v3).setCell ⟨b, 4, none⟩ v4).setCell ⟨b, 5, none⟩ v5
theorem putP_box {w : World} {b : Nat} {v0 v1 v2 v3 v4 v5 u0 u1 u2 u3 u4 u5 : Value} {t : TypeId} (h : w.heap[b]? = some (.cells #[u0, u1, u2, u3, u4, u5] t)) : (putP w b v0 v1 v2 v3 v4 v5).heap[b]? = some (.cells #[v0, v1, v2, v3, v4, v5] t) := by
 simp [putP, World.setCell, Array.getElem?_modify, h]
theorem putP_other {w : World} {b k : Nat} {v0 v1 v2 v3 v4 v5 : Value} (h : k ≠ b) : (putP w b v0 v1 v2 v3 v4 v5).heap[k]? = w.heap[k]? := by
 unfold putP
 rw [Below.heap_setCell _ _ _ _ h, Below.heap_setCell _ _ _ _ h, Below.heap_setCell _ _ _ _ h, Below.heap_setCell _ _ _ _ h, Below.heap_setCell _ _ _ _ h, Below.heap_setCell _ _ _ _ h]
theorem putP_size (w : World) (b : Nat) (v0 v1 v2 v3 v4 v5 : Value) : (putP w b v0 v1 v2 v3 v4 v5).heap.size = w.heap.size := by simp [putP, World.setCell]
theorem putP_below {n : Nat} {w0 w : World} {b : Nat} {v0 v1 v2 v3 v4 v5 : Value} (h : Below n w0 w) (hb : n ≤ b) : Below n w0 (putP w b v0 v1 v2 v3 v4 v5) :=
 ((((((h.setCell (p := ⟨b, 0, none⟩) hb _).setCell (p := ⟨b, 1, none⟩) hb _).setCell (p := ⟨b, 2, none⟩) hb _).setCell (p := ⟨b, 3, none⟩) hb _).setCell (p := ⟨b, 4, none⟩) hb _).setCell (p := ⟨b, 5, none⟩) hb _)
theorem cells_six {W : World} {k : Nat} {u v x y z a : Value} {t : TypeId} (h : W.heap[k]? = some (.cells #[u, v, x, y, z, a] t)) : W.cell? ⟨k, 0, none⟩ = some u ∧ W.cell? ⟨k, 1, none⟩ = some v ∧ W.cell? ⟨k, 2, none⟩ = some x ∧ W.cell? ⟨k, 3, none⟩ = some y ∧ W.cell? ⟨k, 4, none⟩ = some z ∧ W.cell? ⟨k, 5, none⟩ = some a := by
 simp [World.cell?, h]
theorem Rcl.stP {w : World} {ρ : Operand → Value} {o : Oper} {x y : Operand} {b : Nat} {k : Int} {sp kp : Option Addr} {sl sc kl kc : Nat} {nu en go : Bool} {u0 u1 u2 u3 u4 u5 : Value} (hop : o.op = .store 148 x y) (hx : ρ x = .pointer (some ⟨b, 0, none⟩)) (hy : ρ y = .agg #[.int .i64 k, .slice sp sl sc, .slice kp kl kc, .bool nu, .bool en, .bool go]) (h : w.heap[b]? = some (.cells #[u0, u1, u2, u3, u4, u5] 148)) : (execOp ρ o).run Tryz.prog w = .ok .skip (putP w b (.int .i64 k) (.slice sp sl sc) (.slice kp kl kc) (.bool nu) (.bool en) (.bool go)) := by
 obtain ⟨dst, op, type, pos, after, guard⟩ := o
 simp only at hop
 subst hop
 obtain ⟨c0, c1, c2, c3, c4, c5⟩ := cells_six h
 have f : ∀ j, w.frozen? ⟨b, j, none⟩ = false := fun j => by simp [World.frozen?, h]
 have hsz := Tryz.sizeOf148 w
 simp [execOp, hx, hy, Instr.storeAt, Instr.sureAddr, storeVar, Sem.run_bind, hsz, Result.andThen, go_sem, c0, c1, c2, c3, c4, c5, f]
 rfl
theorem Rcl.faN {w : World} {ρ : Operand → Value} {o : Oper} {x : Operand} {b off i : Nat} (hop : o.op = .fieldAddr 26 x i) (hx : ρ x = .pointer (some ⟨b, off, none⟩)) (hi : i = 0 ∨ i = 2 ∨ i = 4) : (execOp ρ o).run Tryz.prog w = .ok (.value (.pointer (some ⟨b, off + i, none⟩))) w := by
 obtain ⟨dst, op, type, pos, after, guard⟩ := o
 simp only at hop
 subst hop
 rcases hi with rfl | rfl | rfl <;> simp [execOp, hx, go_sem]
set_option maxRecDepth 100000 in
set_option maxHeartbeats 2000000 in
theorem fwd_walk (d : ND) (W : World) (R : Option Addr → Nat → Nat → World → Prop) (R2 : Option Addr → Nat → Nat → Bool → World → Prop)
   (hparts : ∀ X, Below W.heap.size W X → W.heap.size + 2 ≤ X.heap.size → Calls Tryz.prog 98 #[.slice d.kp d.kl d.kc, .func (.func 66) #[] #[]] X fun e W1 => ∃ kp kl kc, e = .returned (.slice kp kl kc) ∧ Below X.heap.size X W1 ∧ R kp kl kc W1)
   (hof : ∀ kp kl kc W1, R kp kl kc W1 → Calls Tryz.prog 97 #[.int .i64 d.k, .slice d.sp d.sl d.sc, .slice kp kl kc] W1 fun e W2 => ∃ nu, e = .returned (.agg #[.int .i64 d.k, .slice d.sp d.sl d.sc, .slice kp kl kc, .bool nu, .bool false, .bool false]) ∧ Below W1.heap.size W1 W2 ∧ R2 kp kl kc nu W2) :
   Calls Tryz.prog 66 #[d.v] W fun e W' => ∃ kp kl kc nu W2, e = .returned (.agg #[.int .i64 d.k, .slice d.sp d.sl d.sc, .slice kp kl kc, .bool nu, .bool false, .bool false]) ∧ R2 kp kl kc nu W2 ∧ (∀ i, W.heap.size + 2 ≤ i → W'.heap[i]? = W2.heap[i]?) ∧ W'.heap.size = W2.heap.size ∧ Below W.heap.size W W' := by
 have a1 := al1 W (.cells #[.int .i64 d.k, .int .i64 d.a, .slice d.sp d.sl d.sc, .string d.n, .slice d.kp d.kl d.kc] 26)
 have a2 := al1 (W.alloc (.cells #[.int .i64 d.k, .int .i64 d.a, .slice d.sp d.sl d.sc, .string d.n, .slice d.kp d.kl d.kc] 26)) (.cells #[.int .i64 0, .slice none 0 0, .slice none 0 0, .bool false, .bool false, .bool false] 148)
 have n1 := heap_alloc_new W (.cells #[.int .i64 d.k, .int .i64 d.a, .slice d.sp d.sl d.sc, .string d.n, .slice d.kp d.kl d.kc] 26)
 have n2 := heap_alloc_new (W.alloc (.cells #[.int .i64 d.k, .int .i64 d.a, .slice d.sp d.sl d.sc, .string d.n, .slice d.kp d.kl d.kc] 26)) (.cells #[.int .i64 0, .slice none 0 0, .slice none 0 0, .bool false, .bool false, .bool false] 148)
 have x1 := (a2.block W.heap.size (by simp)).trans n1
 have x2 := n2
 rw [World.size_alloc] at x2
 have bX := nx a1 a2
 have sX : ((W.alloc (.cells #[.int .i64 d.k, .int .i64 d.a, .slice d.sp d.sl d.sc, .string d.n, .slice d.kp d.kl d.kc] 26)).alloc (.cells #[.int .i64 0, .slice none 0 0, .slice none 0 0, .bool false, .bool false, .bool false] 148)).heap.size = W.heap.size + 2 := by simp
 unfold ND.v
 go_enter Tryz.func66, Tryz.ntmps66
 go_wp2
 obtain ⟨X, hX⟩ : ∃ X, (W.alloc (.cells #[.int .i64 d.k, .int .i64 d.a, .slice d.sp d.sl d.sc, .string d.n, .slice d.kp d.kl d.kc] 26)).alloc (.cells #[.int .i64 0, .slice none 0 0, .slice none 0 0, .bool false, .bool false, .bool false] 148) = X := ⟨_, rfl⟩
 rw [hX] at x1 x2 bX sX ⊢
 clear hX a1 a2 n1 n2
 have kx : ∀ w', Below (W.heap.size + 1) X.drew w' → w'.heap[W.heap.size]? = some (.cells #[.int .i64 d.k, .int .i64 d.a, .slice d.sp d.sl d.sc, .string d.n, .slice d.kp d.kl d.kc] 26) := fun w' hb => (hb.block _ (by omega)).trans x1
 refine Reg.start (B := W.heap.size + 1) (by kernel_rfl) ?_
 refine Reg.take (fun _ _ _ _ _ h => h) 0 _ 3 (.pointer (some ⟨W.heap.size, 0 + 0, none⟩)) rfl (by kernel_rfl) (by kernel_rfl) (by kernel_rfl) rfl (by kernel_rfl) (by kernel_rfl) (fun w' hb => Rcl.faN rfl rfl (.inl rfl)) ?_
 refine Reg.take (fun _ _ _ _ _ h => h) 1 _ 4 (.int .i64 d.k) rfl (by kernel_rfl) (by kernel_rfl) (by kernel_rfl) rfl (by kernel_rfl) (by kernel_rfl) (fun w' hb => Reg.ldS rfl rfl (cells_five (kx w' hb)).1 (Tryz.isAgg3 _)) ?_
 refine Reg.take (fun _ _ _ _ _ h => h) 2 _ 5 (.pointer (some ⟨W.heap.size, 0 + 2, none⟩)) rfl (by kernel_rfl) (by kernel_rfl) (by kernel_rfl) rfl (by kernel_rfl) (by kernel_rfl) (fun w' hb => Rcl.faN rfl rfl (.inr (.inl rfl))) ?_
 refine Reg.take (fun _ _ _ _ _ h => h) 3 _ 6 (.slice d.sp d.sl d.sc) rfl (by kernel_rfl) (by kernel_rfl) (by kernel_rfl) rfl (by kernel_rfl) (by kernel_rfl) (fun w' hb => Reg.ldS rfl rfl (cells_five (kx w' hb)).2.2.1 (Tryz.isAgg23 _)) ?_
 refine Reg.take (fun _ _ _ _ _ h => h) 4 _ 7 (.pointer (some ⟨W.heap.size, 0 + 4, none⟩)) rfl (by kernel_rfl) (by kernel_rfl) (by kernel_rfl) rfl (by kernel_rfl) (by kernel_rfl) (fun w' hb => Rcl.faN rfl rfl (.inr (.inr rfl))) ?_
 refine Reg.take (fun _ _ _ _ _ h => h) 5 _ 8 (.slice d.kp d.kl d.kc) rfl (by kernel_rfl) (by kernel_rfl) (by kernel_rfl) rfl (by kernel_rfl) (by kernel_rfl) (fun w' hb => Reg.ldS rfl rfl (cells_five (kx w' hb)).2.2.2.2 (Tryz.isAgg24 _)) ?_
 refine Reg.call 6 _ 9 98 _ _ #[.slice d.kp d.kl d.kc, .func (.func 66) #[] #[]] rfl (by kernel_rfl) rfl (by kernel_rfl) (by kernel_rfl) rfl (by kernel_rfl) (by kernel_rfl) (hparts X.drew bX.drew (show W.heap.size + 2 ≤ X.heap.size by omega)) ?_
 rintro e W1 ⟨kp, kl, kc, rfl, hb1, hR⟩
 have s1 : X.heap.size ≤ W1.heap.size := hb1.size
 refine ⟨_, W.heap.size + 1, rfl, Nat.le_refl _, hb1.mono (show W.heap.size + 1 ≤ X.heap.size by omega), ?_⟩
 refine Reg.call 7 _ 10 97 _ _ #[.int .i64 d.k, .slice d.sp d.sl d.sc, .slice kp kl kc] rfl (by kernel_rfl) rfl (by kernel_rfl) (by kernel_rfl) rfl (by kernel_rfl) (by kernel_rfl) (hof kp kl kc W1 hR) ?_
 rintro e W2 ⟨nu, rfl, hb2, hR2⟩
 have s2 := hb2.size
 refine ⟨_, W.heap.size + 1, rfl, Nat.le_refl _, hb2.mono (by omega), ?_⟩
 have hbox : W2.heap[W.heap.size + 1]? = some (.cells #[.int .i64 0, .slice none 0 0, .slice none 0 0, .bool false, .bool false, .bool false] 148) := (hb2.block _ (by omega)).trans ((hb1.block _ (show W.heap.size + 1 < X.heap.size by omega)).trans x2)
 refine Reg.onlyS 8 _ rfl (by kernel_rfl) rfl (by kernel_rfl) (by kernel_rfl) ⟨putP W2 (W.heap.size + 1) (.int .i64 d.k) (.slice d.sp d.sl d.sc) (.slice kp kl kc) (.bool nu) (.bool false) (.bool false), W.heap.size + 1, Rcl.stP rfl rfl rfl hbox, Nat.le_refl _, putP_below (Below.refl _ _) (Nat.le_refl _), ?_⟩
 refine Reg.done (by kernel_rfl) ?_
 simp only [Reg.ov, Act.put, List.setIfInBounds_toArray, List.set_cons_succ, List.set_cons_zero]
 obtain ⟨q0, q1, q2, q3, q4, q5⟩ := cells_six (putP_box (v0 := .int .i64 d.k) (v1 := .slice d.sp d.sl d.sc) (v2 := .slice kp kl kc) (v3 := .bool nu) (v4 := .bool false) (v5 := .bool false) hbox)
 have bF : Below W.heap.size W (putP W2 (W.heap.size + 1) (.int .i64 d.k) (.slice d.sp d.sl d.sc) (.slice kp kl kc) (.bool nu) (.bool false) (.bool false)) := putP_below (bX.drew.trans ((hb1.mono (show W.heap.size ≤ X.heap.size by omega)).trans (hb2.mono (by omega)))) (by omega)
 have fin := (⟨kp, kl, kc, nu, W2, rfl, hR2, fun i hi => putP_other (by omega), putP_size _ _ _ _ _ _ _ _, bF⟩ : ∃ kp' kl' kc' nu' W2', Ending.returned (.agg #[.int .i64 d.k, .slice d.sp d.sl d.sc, .slice kp kl kc, .bool nu, .bool false, .bool false]) = .returned (.agg #[.int .i64 d.k, .slice d.sp d.sl d.sc, .slice kp' kl' kc', .bool nu', .bool false, .bool false]) ∧ R2 kp' kl' kc' nu' W2' ∧ (∀ i, W.heap.size + 2 ≤ i → (putP W2 (W.heap.size + 1) (.int .i64 d.k) (.slice d.sp d.sl d.sc) (.slice kp kl kc) (.bool nu) (.bool false) (.bool false)).heap[i]? = W2'.heap[i]?) ∧ (putP W2 (W.heap.size + 1) (.int .i64 d.k) (.slice d.sp d.sl d.sc) (.slice kp kl kc) (.bool nu) (.bool false) (.bool false)).heap.size = W2'.heap.size ∧ Below W.heap.size W (putP W2 (W.heap.size + 1) (.int .i64 d.k) (.slice d.sp d.sl d.sc) (.slice kp kl kc) (.bool nu) (.bool false) (.bool false)))
 have FIN := hide fin
 clear fin
 generalize putP W2 (W.heap.size + 1) (.int .i64 d.k) (.slice d.sp d.sl d.sc) (.slice kp kl kc) (.bool nu) (.bool false) (.bool false) = W9 at *
 clear hR2 hbox hb2 hb1 hR kx x1 x2 bX hparts hof
 go_wp2
 exact bodyPost_ret (v := .agg #[.int .i64 d.k, .slice d.sp d.sl d.sc, .slice kp kl kc, .bool nu, .bool false, .bool false]) (by simp [results, Tryz.results66, go_sem, q0, q1, q2, q3, q4, q5]) rfl FIN.out
namespace E
def rxOf : T → Rx
 | .mk k _ s _ [] => .leaf k s
 | .mk k _ _ _ [x] => .one k (rxOf x)
 | .mk k _ _ _ (x :: y :: _) => .two k (rxOf x) (rxOf y)
def Vp : T → Prop
 | .mk k _ s _ [] => (k = 1 ∨ k = 3) ∧ s.length ≤ 1000000
 | .mk k _ _ _ [x] => (k = 6 ∨ k = 7 ∨ k = 8) ∧ Vp x
 | .mk k _ _ _ [x, y] => (k = 4 ∨ k = 5) ∧ Vp x ∧ Vp y
 | .mk _ _ _ _ (_ :: _ :: _ :: _) => False
def Rx.rev : Rx → Rx
 | .leaf k s => .leaf k s
 | .one k a => .one k a.rev
 | .two k a b => if k = 4 then .two k b.rev a.rev else .two k a.rev b.rev
end E
open E (rxOf Vp)
theorem TR.parts8 {w : World} {ok : Nat → Prop} {k a : Int} {s : List U.S.R} {n : List UInt8} {ks : List T} {d : ND} (h : TR w ok (.mk k a s n ks) d.v) : d.k = k ∧ d.sl = s.length ∧ U.RdR w d.sp s ∧ d.kl = ks.length ∧ KR w ok ks d.kp 0 := by
 rw [TR] at h
 obtain ⟨sp, sc, kp, kc, e, h1, h2, h3⟩ := h
 unfold ND.v at e
 simp only [Value.agg.injEq, Array.mk.injEq, List.cons.injEq, Value.int.injEq, Value.slice.injEq, and_true, true_and] at e
 obtain ⟨e1, e2, ⟨e3, e4, e5⟩, e6, e7, e8, e9⟩ := e
 exact ⟨e1, e4, by rw [e3]; exact h1, e8, by rw [e7]; exact h3⟩
theorem nul_one {k : Int} (a : Rx) (h : k = 6 ∨ k = 8) : (Rx.one k a).nul = true := by
 unfold Rx.nul; rw [if_neg (by omega)]
theorem fwd_any : ∀ (t : T), Vp t → HowC 66 (fun t => (rxOf t).ps) t
 | .mk k a s n [], hV => by
   intro w0 W d hT hB
   rw [Vp] at hV
   obtain ⟨hk, hs⟩ := hV
   obtain ⟨rfl, e2, h1, e3, _⟩ := hT.parts8
   refine (fwd_walk d W (fun kp kl kc _ => kp = none ∧ kl = 0 ∧ kc = 0) (fun kp kl kc nu _ => kp = none ∧ kl = 0 ∧ kc = 0 ∧ nu = (!(d.k == 1))) ?_ ?_).mono ?_
   · intro X _ _
     rw [show d.kl = 0 from e3]
     refine (parts_none 66 d.kp d.kc X).mono ?_
     rintro e W' ⟨rfl, rfl⟩
     exact ⟨none, 0, 0, rfl, Below.refl _ _, rfl, rfl, rfl⟩
   · rintro kp kl kc W1 ⟨rfl, rfl, rfl⟩
     rcases hk with hk | hk
     · rw [hk]
       refine (partOf_1 d.sp d.sl d.sc W1).mono ?_
       rintro e W' ⟨rfl, hb⟩
       exact ⟨false, rfl, hb, rfl, rfl, rfl, rfl⟩
     · rw [hk]
       refine (partOf_3 d.sp d.sl d.sc W1).mono ?_
       rintro e W' ⟨rfl, hb⟩
       exact ⟨true, rfl, hb, rfl, rfl, rfl, rfl⟩
   · rintro e W' ⟨kp, kl, kc, nu, W2, rfl, ⟨rfl, rfl, rfl, rfl⟩, hblk, hsz, hb⟩
     refine ⟨_, rfl, ⟨d.k, d.sp, d.sl, d.sc, none, 0, 0, _, false, false, rfl, fun V b o c _ => ?_⟩, hb⟩
     show PR w0 V (rxOf (.mk d.k a s n [])).ps b o _ _
     rw [rxOf]
     rw [e2] at c
     exact pr_leaf hk hs c h1
 | .mk k a s n [x], hV => by
   intro w0 W d hT hB
   rw [Vp] at hV
   obtain ⟨hk, hx⟩ := hV
   have ih := fwd_any x hx
   obtain ⟨rfl, e2, _, e3, hK⟩ := hT.parts8
   refine (fwd_walk d W (fun kp kl kc W1 => ∃ g h1 lo, kp = some ⟨g, 0, none⟩ ∧ kl = 1 ∧ W.heap.size + 2 ≤ lo ∧ Row W1 g ∧ PR w0 W1 (rxOf x).ps g 0 lo h1 ∧ lo ≤ g ∧ h1 ≤ g) (fun kp kl kc nu W2 => ∃ g h1 lo, kp = some ⟨g, 0, none⟩ ∧ kl = 1 ∧ W.heap.size + 2 ≤ lo ∧ Row W2 g ∧ PR w0 W2 (rxOf x).ps g 0 lo h1 ∧ lo ≤ g ∧ h1 ≤ g ∧ nu = (Rx.one d.k (rxOf x)).nul) ?_ ?_).mono ?_
   · intro X hX hXs
     rw [show d.kl = 1 from e3]
     refine (parts_one66 _ x ih w0 X d.kp d.kc hK (hB.trans (hX.mono hB.size))).mono ?_
     rintro e W1 ⟨u, rfl, ho⟩
     obtain ⟨g, cap, h1, rfl, hr, hp, hg1, hg2, hb⟩ := one_end ho
     exact ⟨_, _, _, rfl, hb, g, h1, X.heap.size, rfl, rfl, hXs, hr, hp, hg1, hg2⟩
   · rintro kp kl kc W1 ⟨g, h1, lo, rfl, rfl, q1, hr, hp, q2, q3⟩
     have hn := hp.tell.1
     rw [(Rx.ps_ok _).2.2.2] at hn
     have hl := hr.lt
     have fin : ∀ (W2 : World), Below W1.heap.size W1 W2 → Row W2 g ∧ PR w0 W2 (rxOf x).ps g 0 lo h1 := fun W2 hb => by
       have hg := hb.block g hl
       obtain ⟨cs, hr⟩ := hr
       exact ⟨⟨cs, hg.trans hr⟩, hp.keep (fun j _ => cell_blk hg _) (fun i _ hi => hb.block i (by omega))⟩
     rcases hk with hk | hk | hk
     · rw [hk]
       refine (partOf_6 d.sp d.sl d.sc g kc _ W1 hn).mono ?_
       rintro e W' ⟨rfl, hb⟩
       exact ⟨true, rfl, hb, g, h1, lo, rfl, rfl, q1, (fin _ hb).1, (fin _ hb).2, q2, q3, (nul_one _ (.inl rfl)).symm⟩
     · rw [hk]
       refine (partOf_7 d.sp d.sl d.sc g kc _ W1 hn).mono ?_
       rintro e W' ⟨rfl, hb⟩
       exact ⟨_, rfl, hb, g, h1, lo, rfl, rfl, q1, (fin _ hb).1, (fin _ hb).2, q2, q3, rfl⟩
     · rw [hk]
       refine (partOf_8 d.sp d.sl d.sc g kc _ W1 hn).mono ?_
       rintro e W' ⟨rfl, hb⟩
       exact ⟨true, rfl, hb, g, h1, lo, rfl, rfl, q1, (fin _ hb).1, (fin _ hb).2, q2, q3, (nul_one _ (.inr rfl)).symm⟩
   · rintro e W' ⟨kp, kl, kc, nu, W2, rfl, ⟨g, h1, lo, rfl, rfl, q1, hr, hp, q2, q3, rfl⟩, hblk, hsz, hb⟩
     have hl := hr.lt
     refine ⟨_, rfl, ⟨d.k, d.sp, d.sl, d.sc, some ⟨g, 0, none⟩, 1, kc, _, false, false, rfl, fun V b o c hv => ?_⟩, hb⟩
     show PR w0 V (rxOf (.mk d.k a s n [x])).ps b o _ _
     rw [rxOf]
     have hs := hb.size
     have hg : V.heap[g]? = W2.heap[g]? := (hv g (by omega) (by omega)).trans (hblk g (by omega))
     have hp' : PR w0 V (rxOf x).ps g 0 lo h1 := hp.keep (fun j _ => cell_blk hg _) (fun i hi1 hi2 => (hv i (by omega) (by omega)).trans (hblk i (by omega)))
     obtain ⟨cs, hr⟩ := hr
     exact pr_one hk c (by omega) (by omega) ⟨cs, hg.trans hr⟩ (hp'.wide (by omega) q3)
 | .mk k a s n [x, y], hV => by
   intro w0 W d hT hB
   rw [Vp] at hV
   obtain ⟨hk, hx, hy⟩ := hV
   have ihx := fwd_any x hx
   have ihy := fwd_any y hy
   obtain ⟨rfl, e2, _, e3, hK⟩ := hT.parts8
   refine (fwd_walk d W (fun kp kl kc W1 => ∃ X : World, W.heap.size + 2 ≤ X.heap.size ∧ Two w0 X (rxOf x).ps (rxOf y).ps (.slice kp kl kc) W1) (fun kp kl kc nu W2 => ∃ X : World, W.heap.size + 2 ≤ X.heap.size ∧ Two w0 X (rxOf x).ps (rxOf y).ps (.slice kp kl kc) W2 ∧ nu = (Rx.two d.k (rxOf x) (rxOf y)).nul) ?_ ?_).mono ?_
   · intro X hX hXs
     rw [show d.kl = 2 from e3]
     refine (parts_two66 _ x y ihx ihy w0 X d.kp d.kc hK (hB.trans (hX.mono hB.size))).mono ?_
     rintro e W1 ⟨u, rfl, ho⟩
     obtain ⟨g, cap, l1, h1, l2, h2, rfl, hrest⟩ := id ho
     exact ⟨_, _, _, rfl, hrest.2.2.2.2.2.2.2.2.1, X, hXs, ho⟩
   · rintro kp kl kc W1 ⟨X, hXs, g, cap, l1, h1, l2, h2, e, hr, hp, hq, i1, i2, i3, i4, i5, hb0, sl1, sl2⟩
     cases e
     have hn := hp.tell.1
     have hm := hq.tell.1
     rw [(Rx.ps_ok _).2.2.2] at hn hm
     simp only [Nat.zero_add, Nat.reduceAdd] at hn hm
     have fin : ∀ (W2 : World), Below W1.heap.size W1 W2 → Two w0 X (rxOf x).ps (rxOf y).ps (.slice (some ⟨g, 0, none⟩) 2 kc) W2 := fun W2 hb => by
       have hg := hb.block g i5
       have hs := hb.size
       have hx0 := hb0.size
       obtain ⟨cs, hr⟩ := hr
       exact ⟨g, kc, l1, h1, l2, h2, rfl, ⟨cs, hg.trans hr⟩, hp.keep (fun j _ => cell_blk hg _) (fun i _ hi => hb.block i (by omega)), hq.keep (fun j _ => cell_blk hg _) (fun i _ hi => hb.block i (by omega)), by omega, by omega, i3, i4, by omega, hb0.trans (hb.mono hx0), sl1.keep hg, sl2.keep hg⟩
     rcases hk with hk | hk
     · rw [hk]
       refine (partOf_4 d.sp d.sl d.sc g kc _ _ W1 hn hm).mono ?_
       rintro e W' ⟨rfl, hb⟩
       exact ⟨_, rfl, hb, X, hXs, fin _ hb, rfl⟩
     · rw [hk]
       refine (partOf_5 d.sp d.sl d.sc g kc _ _ W1 hn hm).mono ?_
       rintro e W' ⟨rfl, hb⟩
       exact ⟨_, rfl, hb, X, hXs, fin _ hb, rfl⟩
   · rintro e W' ⟨kp, kl, kc, nu, W2, rfl, ⟨X, hXs, ⟨g, cap, l1, h1, l2, h2, e, hr, hp, hq, i1, i2, i3, i4, i5, hb0, _, _⟩, rfl⟩, hblk, hsz, hb⟩
     cases e
     refine ⟨_, rfl, ⟨d.k, d.sp, d.sl, d.sc, some ⟨g, 0, none⟩, 2, kc, _, false, false, rfl, fun V b o c hv => ?_⟩, hb⟩
     show PR w0 V (rxOf (.mk d.k a s n [x, y])).ps b o _ _
     rw [rxOf]
     have hs := hb.size
     have hg : V.heap[g]? = W2.heap[g]? := (hv g (by omega) (by omega)).trans (hblk g (by omega))
     have hblk2 : ∀ i, X.heap.size ≤ i → i < W2.heap.size → V.heap[i]? = W2.heap[i]? := fun i hi1 hi2 => (hv i (by omega) (by omega)).trans (hblk i (by omega))
     obtain ⟨cs, hr⟩ := hr
     exact pr_two hk c (by omega) (by omega) ⟨cs, hg.trans hr⟩ (hp.keep (fun j _ => cell_blk hg _) (fun i hi1 hi2 => hblk2 i (by omega) (by omega))) (hq.keep (fun j _ => cell_blk hg _) (fun i hi1 hi2 => hblk2 i (by omega) (by omega))) (by omega) (by omega) i3
 | .mk k a s n (x :: y :: z :: ks), hV => by rw [Vp] at hV; exact hV.elim
def putA (w : World) (g o : Nat) (v0 v1 v2 v3 v4 v5 : Value) : World := (((((w.setCell ⟨g, o, none⟩ v0).setCell ⟨g, o + 1, none⟩ v1).setCell ⟨g, o + 2, none⟩ v2).setCell ⟨g, o + 3, none⟩ v3).setCell ⟨g, o + 4, none⟩ v4).setCell ⟨g, o + 5, none⟩ v5
theorem putA_blk (w : World) (g o : Nat) (v0 v1 v2 v3 v4 v5 : Value) {k : Nat} (h : k ≠ g) : (putA w g o v0 v1 v2 v3 v4 v5).heap[k]? = w.heap[k]? := by
 unfold putA
 rw [Below.heap_setCell _ _ _ _ h, Below.heap_setCell _ _ _ _ h, Below.heap_setCell _ _ _ _ h, Below.heap_setCell _ _ _ _ h, Below.heap_setCell _ _ _ _ h, Below.heap_setCell _ _ _ _ h]
theorem putA_row {w : World} {g : Nat} (h : Row w g) (o : Nat) (v0 v1 v2 v3 v4 v5 : Value) : Row (putA w g o v0 v1 v2 v3 v4 v5) g := (((((h.set _ _).set _ _).set _ _).set _ _).set _ _).set _ _
theorem putA_size (w : World) (g o : Nat) (v0 v1 v2 v3 v4 v5 : Value) : (putA w g o v0 v1 v2 v3 v4 v5).heap.size = w.heap.size := by simp [putA, World.setCell]
theorem set_os (w : World) (p : Addr) (v : Value) : (w.setCell p v).os = w.os ∧ (w.setCell p v).tape = w.tape ∧ (w.setCell p v).output = w.output := ⟨rfl, rfl, rfl⟩
theorem putA_os (w : World) (g o : Nat) (v0 v1 v2 v3 v4 v5 : Value) : (putA w g o v0 v1 v2 v3 v4 v5).os = w.os ∧ (putA w g o v0 v1 v2 v3 v4 v5).tape = w.tape ∧ (putA w g o v0 v1 v2 v3 v4 v5).output = w.output := by
 unfold putA
 simp only [(set_os _ _ _).1, (set_os _ _ _).2.1, (set_os _ _ _).2.2, and_self]
theorem putA_off (w : World) (g o : Nat) (v0 v1 v2 v3 v4 v5 : Value) {j : Nat} (h : j < o ∨ o + 6 ≤ j) : (putA w g o v0 v1 v2 v3 v4 v5).cell? ⟨g, j, none⟩ = w.cell? ⟨g, j, none⟩ := by
 unfold putA
 rw [cell_set_other (.inr (by omega)), cell_set_other (.inr (by omega)), cell_set_other (.inr (by omega)), cell_set_other (.inr (by omega)), cell_set_other (.inr (by omega)), cell_set_other (.inr (by omega))]
theorem putA_c6 {w : World} {g o : Nat} {k0 : Int} {s0 v0 : Value} {a0 b0 c0 : Bool} (h : C6 w g o k0 s0 v0 a0 b0 c0) (k : Int) (sv kv : Value) (nu en go : Bool) : C6 (putA w g o (.int .i64 k) sv kv (.bool nu) (.bool en) (.bool go)) g o k sv kv nu en go := by
 unfold putA
 refine ⟨?_, ?_, ?_, ?_, ?_, ?_⟩
 · rw [cell_set_other (.inr (by omega)), cell_set_other (.inr (by omega)), cell_set_other (.inr (by omega)), cell_set_other (.inr (by omega)), cell_set_other (.inr (by omega))]
   exact cell_set_same h.c0
 · rw [cell_set_other (.inr (by omega)), cell_set_other (.inr (by omega)), cell_set_other (.inr (by omega)), cell_set_other (.inr (by omega))]
   exact cell_set_same (u := s0) (by rw [cell_set_other (.inr (by omega))]; exact h.c1)
 · rw [cell_set_other (.inr (by omega)), cell_set_other (.inr (by omega)), cell_set_other (.inr (by omega))]
   exact cell_set_same (u := v0) (by rw [cell_set_other (.inr (by omega)), cell_set_other (.inr (by omega))]; exact h.c2)
 · rw [cell_set_other (.inr (by omega)), cell_set_other (.inr (by omega))]
   exact cell_set_same (u := .bool a0) (by rw [cell_set_other (.inr (by omega)), cell_set_other (.inr (by omega)), cell_set_other (.inr (by omega))]; exact h.c3)
 · rw [cell_set_other (.inr (by omega))]
   exact cell_set_same (u := .bool b0) (by rw [cell_set_other (.inr (by omega)), cell_set_other (.inr (by omega)), cell_set_other (.inr (by omega)), cell_set_other (.inr (by omega))]; exact h.c4)
 · exact cell_set_same (u := .bool c0) (by rw [cell_set_other (.inr (by omega)), cell_set_other (.inr (by omega)), cell_set_other (.inr (by omega)), cell_set_other (.inr (by omega)), cell_set_other (.inr (by omega))]; exact h.c5)
structure Swp (g : Nat) (w w' : World) : Prop where
 x : ∀ j, j < 6 → w'.cell? ⟨g, j, none⟩ = w.cell? ⟨g, 6 + j, none⟩
 y : ∀ j, j < 6 → w'.cell? ⟨g, 6 + j, none⟩ = w.cell? ⟨g, j, none⟩
 blk : ∀ k, k ≠ g → w'.heap[k]? = w.heap[k]?
 row : Row w' g
 size : w'.heap.size = w.heap.size
 os : w'.os = w.os
 tape : w'.tape = w.tape
 output : w'.output = w.output
theorem C6.nth {W : World} {b o : Nat} {k : Int} {sv kv : Value} {nu en go : Bool} (h : C6 W b o k sv kv nu en go) : ∀ j, j < 6 → W.cell? ⟨b, o + j, none⟩ = [Value.int .i64 k, sv, kv, .bool nu, .bool en, .bool go][j]?
 | 0, _ => h.c0
 | 1, _ => h.c1
 | 2, _ => h.c2
 | 3, _ => h.c3
 | 4, _ => h.c4
 | 5, _ => h.c5
theorem swp_of {w : World} {g : Nat} {ka : Int} {sa va : Value} {na ea ga : Bool} {kb : Int} {sb vb : Value} {nb eb gb : Bool} (hr : Row w g) (A : C6 w g 0 ka sa va na ea ga) (B : C6 w g 6 kb sb vb nb eb gb) :
   Swp g w (putA (putA w g 0 (.int .i64 kb) sb vb (.bool nb) (.bool eb) (.bool gb)) g 6 (.int .i64 ka) sa va (.bool na) (.bool ea) (.bool ga)) := by
 have h1 := putA_c6 A kb sb vb nb eb gb
 have h2 : C6 (putA w g 0 (.int .i64 kb) sb vb (.bool nb) (.bool eb) (.bool gb)) g 6 kb sb vb nb eb gb := B.keep (fun j _ => putA_off _ _ _ _ _ _ _ _ _ (.inr (by omega)))
 have h3 := putA_c6 h2 ka sa va na ea ga
 have h4 : C6 (putA (putA w g 0 (.int .i64 kb) sb vb (.bool nb) (.bool eb) (.bool gb)) g 6 (.int .i64 ka) sa va (.bool na) (.bool ea) (.bool ga)) g 0 kb sb vb nb eb gb := h1.keep (fun j hj => putA_off _ _ _ _ _ _ _ _ _ (.inl (by omega)))
 refine ⟨fun j hj => ?_, fun j hj => ?_, fun k hk => ?_, putA_row (putA_row hr _ _ _ _ _ _ _) _ _ _ _ _ _ _, ?_, (putA_os _ _ _ _ _ _ _ _ _).1.trans (putA_os _ _ _ _ _ _ _ _ _).1, (putA_os _ _ _ _ _ _ _ _ _).2.1.trans (putA_os _ _ _ _ _ _ _ _ _).2.1, (putA_os _ _ _ _ _ _ _ _ _).2.2.trans (putA_os _ _ _ _ _ _ _ _ _).2.2⟩
 · have e1 := h4.nth j hj
   rw [Nat.zero_add] at e1
   exact e1.trans (B.nth j hj).symm
 · have e1 := A.nth j hj
   rw [Nat.zero_add] at e1
   exact (h3.nth j hj).trans e1.symm
 · exact (putA_blk _ _ _ _ _ _ _ _ _ hk).trans (putA_blk _ _ _ _ _ _ _ _ _ hk)
 · exact (putA_size _ _ _ _ _ _ _ _ _).trans (putA_size _ _ _ _ _ _ _ _ _)
theorem Swp.drew {g : Nat} {w w' : World} (h : Swp g w w') : Swp g w w'.drew := ⟨h.x, h.y, h.blk, h.row, h.size, h.os, h.tape, h.output⟩
theorem Swp.below {g n : Nat} {w w' : World} (h : Swp g w w') (hn : n ≤ g) : Below n w w' := ⟨h.os, h.tape, h.output, Nat.le_of_eq h.size.symm, fun k hk => h.blk k (by omega)⟩
set_option maxRecDepth 100000 in
set_option maxHeartbeats 2000000 in
theorem bwd_walk (d : ND) (W : World) (hk4 : (d.k == 4) = false) (R : Option Addr → Nat → Nat → World → Prop) (R2 : Option Addr → Nat → Nat → Bool → World → Prop)
   (hparts : ∀ X, Below W.heap.size W X → W.heap.size + 2 ≤ X.heap.size → Calls Tryz.prog 98 #[.slice d.kp d.kl d.kc, .func (.func 69) #[] #[]] X fun e W1 => ∃ kp kl kc, e = .returned (.slice kp kl kc) ∧ Below X.heap.size X W1 ∧ R kp kl kc W1)
   (hof : ∀ kp kl kc W1, R kp kl kc W1 → Calls Tryz.prog 97 #[.int .i64 d.k, .slice d.sp d.sl d.sc, .slice kp kl kc] W1 fun e W2 => ∃ nu, e = .returned (.agg #[.int .i64 d.k, .slice d.sp d.sl d.sc, .slice kp kl kc, .bool nu, .bool false, .bool false]) ∧ Below W1.heap.size W1 W2 ∧ R2 kp kl kc nu W2) :
   Calls Tryz.prog 69 #[d.v] W fun e W' => ∃ kp kl kc nu W2, e = .returned (.agg #[.int .i64 d.k, .slice d.sp d.sl d.sc, .slice kp kl kc, .bool nu, .bool false, .bool false]) ∧ R2 kp kl kc nu W2 ∧ (∀ i, W.heap.size + 2 ≤ i → W'.heap[i]? = W2.heap[i]?) ∧ W'.heap.size = W2.heap.size ∧ Below W.heap.size W W' := by
 have a1 := al1 W (.cells #[.int .i64 d.k, .int .i64 d.a, .slice d.sp d.sl d.sc, .string d.n, .slice d.kp d.kl d.kc] 26)
 have a2 := al1 (W.alloc (.cells #[.int .i64 d.k, .int .i64 d.a, .slice d.sp d.sl d.sc, .string d.n, .slice d.kp d.kl d.kc] 26)) (.cells #[.int .i64 0, .slice none 0 0, .slice none 0 0, .bool false, .bool false, .bool false] 148)
 have n1 := heap_alloc_new W (.cells #[.int .i64 d.k, .int .i64 d.a, .slice d.sp d.sl d.sc, .string d.n, .slice d.kp d.kl d.kc] 26)
 have n2 := heap_alloc_new (W.alloc (.cells #[.int .i64 d.k, .int .i64 d.a, .slice d.sp d.sl d.sc, .string d.n, .slice d.kp d.kl d.kc] 26)) (.cells #[.int .i64 0, .slice none 0 0, .slice none 0 0, .bool false, .bool false, .bool false] 148)
 have x1 := (a2.block W.heap.size (by simp)).trans n1
 have x2 := n2
 rw [World.size_alloc] at x2
 have bX := nx a1 a2
 have sX : ((W.alloc (.cells #[.int .i64 d.k, .int .i64 d.a, .slice d.sp d.sl d.sc, .string d.n, .slice d.kp d.kl d.kc] 26)).alloc (.cells #[.int .i64 0, .slice none 0 0, .slice none 0 0, .bool false, .bool false, .bool false] 148)).heap.size = W.heap.size + 2 := by simp
 have hp := hparts _ bX (by rw [sX]; exact Nat.le_refl _)
 unfold ND.v
 go_enter Tryz.func69, Tryz.ntmps69
 go_wp2_with fail
 refine hp.mono ?_
 rintro e W1 ⟨kp, kl, kc, rfl, hb1, hR⟩
 have hs1 := hb1.size
 have b1 := nx bX hb1
 have y1 := (hb1.block W.heap.size (by omega)).trans x1
 have y2 := (hb1.block (W.heap.size + 1) (by omega)).trans x2
 have hof' := hof kp kl kc W1 hR
 have z1 : W.heap.size + 2 ≤ W1.heap.size := by omega
 clear hp hparts hof hb1 x1 x2 n1 n2 a1 a2 hs1 bX sX
 obtain ⟨q0, q1, q2, q3, q4⟩ := cells_five y1
 go_wp2_with fail
 refine hof'.mono ?_
 rintro e W2 ⟨nu, rfl, hb2, hR2⟩
 have hbox := (hb2.block (W.heap.size + 1) (by omega)).trans y2
 obtain ⟨p0, p1, p2, p3, p4, p5⟩ := cells_six hbox
 have fz : ∀ j, W2.frozen? ⟨W.heap.size + 1, j, none⟩ = false := fun j => by simp [World.frozen?, hbox]
 have s2 := hb2.size
 obtain ⟨r0, r1, r2, r3, r4, r5⟩ := cells_six (putP_box (v0 := .int .i64 d.k) (v1 := .slice d.sp d.sl d.sc) (v2 := .slice kp kl kc) (v3 := .bool nu) (v4 := .bool false) (v5 := .bool false) hbox)
 have bF : Below W.heap.size W (putP W2 (W.heap.size + 1) (.int .i64 d.k) (.slice d.sp d.sl d.sc) (.slice kp kl kc) (.bool nu) (.bool false) (.bool false)) := putP_below (nx b1 hb2) (by omega)
 have FIN := hide (p := ∃ kp' kl' kc' nu' W2', Ending.returned (.agg #[.int .i64 d.k, .slice d.sp d.sl d.sc, .slice kp kl kc, .bool nu, .bool false, .bool false]) = .returned (.agg #[.int .i64 d.k, .slice d.sp d.sl d.sc, .slice kp' kl' kc', .bool nu', .bool false, .bool false]) ∧ R2 kp' kl' kc' nu' W2' ∧ (∀ i, W.heap.size + 2 ≤ i → (putP W2 (W.heap.size + 1) (.int .i64 d.k) (.slice d.sp d.sl d.sc) (.slice kp kl kc) (.bool nu) (.bool false) (.bool false)).heap[i]? = W2'.heap[i]?) ∧ (putP W2 (W.heap.size + 1) (.int .i64 d.k) (.slice d.sp d.sl d.sc) (.slice kp kl kc) (.bool nu) (.bool false) (.bool false)).heap.size = W2'.heap.size ∧ Below W.heap.size W (putP W2 (W.heap.size + 1) (.int .i64 d.k) (.slice d.sp d.sl d.sc) (.slice kp kl kc) (.bool nu) (.bool false) (.bool false))) ⟨kp, kl, kc, nu, W2, rfl, hR2, fun i hi => putP_other (by omega), putP_size _ _ _ _ _ _ _ _, bF⟩
 clear hof' hb2 hR2 hbox bF b1 hR y1 y2 q0 q1 q2 q3 q4
 go_wp2
 exact bodyPost_ret (w := putP W2 (W.heap.size + 1) _ _ _ _ _ _) (v := .agg #[.int .i64 d.k, .slice d.sp d.sl d.sc, .slice kp kl kc, .bool nu, .bool false, .bool false]) (by simp [results, Tryz.results69, go_sem, r0, r1, r2, r3, r4, r5]) rfl FIN.out
set_option maxRecDepth 100000 in
set_option maxHeartbeats 2000000 in
theorem bwd_cat (d : ND) (W : World) (hk4 : Hid (d.k = 4)) (R : Nat → Nat → World → Prop) (R2 : Nat → Nat → Bool → World → Prop)
   (hparts : ∀ X, Below W.heap.size W X → W.heap.size + 2 ≤ X.heap.size → Calls Tryz.prog 98 #[.slice d.kp d.kl d.kc, .func (.func 69) #[] #[]] X fun e W1 => ∃ g kc ka spa sla sca kpa kla kca na ea ga kb spb slb scb kpb klb kcb nb eb gb, e = .returned (.slice (some ⟨g, 0, none⟩) 2 kc) ∧ Below X.heap.size X W1 ∧ Row W1 g ∧ C6 W1 g 0 ka (.slice spa sla sca) (.slice kpa kla kca) na ea ga ∧ C6 W1 g 6 kb (.slice spb slb scb) (.slice kpb klb kcb) nb eb gb ∧ W.heap.size + 2 ≤ g ∧ R g kc W1)
   (hof : ∀ g kc W1 Ws, R g kc W1 → Swp g W1 Ws → Calls Tryz.prog 97 #[.int .i64 d.k, .slice d.sp d.sl d.sc, .slice (some ⟨g, 0, none⟩) 2 kc] Ws fun e W2 => ∃ nu, e = .returned (.agg #[.int .i64 d.k, .slice d.sp d.sl d.sc, .slice (some ⟨g, 0, none⟩) 2 kc, .bool nu, .bool false, .bool false]) ∧ Below Ws.heap.size Ws W2 ∧ R2 g kc nu W2) :
   Calls Tryz.prog 69 #[d.v] W fun e W' => ∃ g kc nu W2, e = .returned (.agg #[.int .i64 d.k, .slice d.sp d.sl d.sc, .slice (some ⟨g, 0, none⟩) 2 kc, .bool nu, .bool false, .bool false]) ∧ R2 g kc nu W2 ∧ (∀ i, W.heap.size + 2 ≤ i → W'.heap[i]? = W2.heap[i]?) ∧ W'.heap.size = W2.heap.size ∧ Below W.heap.size W W' := by
 have a1 := al1 W (.cells #[.int .i64 d.k, .int .i64 d.a, .slice d.sp d.sl d.sc, .string d.n, .slice d.kp d.kl d.kc] 26)
 have a2 := al1 (W.alloc (.cells #[.int .i64 d.k, .int .i64 d.a, .slice d.sp d.sl d.sc, .string d.n, .slice d.kp d.kl d.kc] 26)) (.cells #[.int .i64 0, .slice none 0 0, .slice none 0 0, .bool false, .bool false, .bool false] 148)
 have n1 := heap_alloc_new W (.cells #[.int .i64 d.k, .int .i64 d.a, .slice d.sp d.sl d.sc, .string d.n, .slice d.kp d.kl d.kc] 26)
 have n2 := heap_alloc_new (W.alloc (.cells #[.int .i64 d.k, .int .i64 d.a, .slice d.sp d.sl d.sc, .string d.n, .slice d.kp d.kl d.kc] 26)) (.cells #[.int .i64 0, .slice none 0 0, .slice none 0 0, .bool false, .bool false, .bool false] 148)
 have x1 := (a2.block W.heap.size (by simp)).trans n1
 have x2 := n2
 rw [World.size_alloc] at x2
 have bX := nx a1 a2
 have sX : ((W.alloc (.cells #[.int .i64 d.k, .int .i64 d.a, .slice d.sp d.sl d.sc, .string d.n, .slice d.kp d.kl d.kc] 26)).alloc (.cells #[.int .i64 0, .slice none 0 0, .slice none 0 0, .bool false, .bool false, .bool false] 148)).heap.size = W.heap.size + 2 := by simp
 have hp := hparts _ bX (by rw [sX]; exact Nat.le_refl _)
 unfold ND.v
 go_enter Tryz.func69, Tryz.ntmps69
 go_wp2_with fail
 refine hp.mono ?_
 rintro e W1 ⟨g, kc, ka, spa, sla, sca, kpa, kla, kca, na, ea, ga, kb, spb, slb, scb, kpb, klb, kcb, nb, eb, gb, rfl, hb1, hrow, A, B, hg, hR⟩
 have hs1 := hb1.size
 have b1 := nx bX hb1
 have y1 := (hb1.block W.heap.size (by omega)).trans x1
 have y2 := (hb1.block (W.heap.size + 1) (by omega)).trans x2
 have z1 : W.heap.size + 2 ≤ W1.heap.size := by omega
 have hsw := (swp_of hrow A B).drew
 obtain ⟨A0, A1, A2, A3, A4, A5⟩ := A
 obtain ⟨B0, B1, B2, B3, B4, B5⟩ := B
 simp only [Nat.zero_add, Nat.reduceAdd] at A0 A1 A2 A3 A4 A5 B0 B1 B2 B3 B4 B5
 have fr := hrow.frz
 have hgl := hrow.lt
 have es := elemSize146
 obtain ⟨Ws, hWs⟩ : ∃ Ws, (putA (putA W1 g 0 (.int .i64 kb) (.slice spb slb scb) (.slice kpb klb kcb) (.bool nb) (.bool eb) (.bool gb)) g 6 (.int .i64 ka) (.slice spa sla sca) (.slice kpa kla kca) (.bool na) (.bool ea) (.bool ga)).drew = Ws := ⟨_, rfl⟩
 rw [hWs] at hsw
 have HSW := hide hsw
 have HWS := hide hWs
 have hof' := hof g kc W1 Ws hR hsw
 clear hp hparts hof hb1 x1 x2 n1 n2 a1 a2 hs1 bX sX hsw hWs
 obtain ⟨q0, q1, q2, q3, q4⟩ := cells_five y1
 have e4 : (d.k == 4) = true := by rw [hk4.out]; rfl
 go_wp2_with fail
 go_region
 have hgo : ∀ (K : World → Prop), K Ws → K (putA (putA W1 g 0 (.int .i64 kb) (.slice spb slb scb) (.slice kpb klb kcb) (.bool nb) (.bool eb) (.bool gb)) g 6 (.int .i64 ka) (.slice spa sla sca) (.slice kpa kla kca) (.bool na) (.bool ea) (.bool ga)).drew := fun K h => by rw [HWS.out]; exact h
 refine hgo (fun w => Exit.then _ _ Exit.normal _ w) ?_
 clear hgo HWS A0 A1 A2 A3 A4 A5 B0 B1 B2 B3 B4 B5
 have y1' := (HSW.out.blk W.heap.size (by omega)).trans y1
 have y2' := (HSW.out.blk (W.heap.size + 1) (by omega)).trans y2
 have b1' : Below W.heap.size W Ws := b1.trans (HSW.out.below (by omega))
 have z1' : W.heap.size + 2 ≤ Ws.heap.size := by rw [HSW.out.size]; exact z1
 clear y1 y2 q0 q1 q2 q3 q4 hR fr
 obtain ⟨q0, q1, q2, q3, q4⟩ := cells_five y1'
 go_wp2_with fail
 refine hof'.mono ?_
 rintro e W2 ⟨nu, rfl, hb2, hR2⟩
 have hbox := (hb2.block (W.heap.size + 1) (by omega)).trans y2'
 obtain ⟨p0, p1, p2, p3, p4, p5⟩ := cells_six hbox
 have fz : ∀ j, W2.frozen? ⟨W.heap.size + 1, j, none⟩ = false := fun j => by simp [World.frozen?, hbox]
 have s2 := hb2.size
 obtain ⟨r0, r1, r2, r3, r4, r5⟩ := cells_six (putP_box (v0 := .int .i64 d.k) (v1 := .slice d.sp d.sl d.sc) (v2 := .slice (some ⟨g, 0, none⟩) 2 kc) (v3 := .bool nu) (v4 := .bool false) (v5 := .bool false) hbox)
 have bF : Below W.heap.size W (putP W2 (W.heap.size + 1) (.int .i64 d.k) (.slice d.sp d.sl d.sc) (.slice (some ⟨g, 0, none⟩) 2 kc) (.bool nu) (.bool false) (.bool false)) := putP_below (nx b1' hb2) (by omega)
 have FIN := hide (p := ∃ g_ kc_ nu_ W2_, Ending.returned (.agg #[.int .i64 d.k, .slice d.sp d.sl d.sc, .slice (some ⟨g, 0, none⟩) 2 kc, .bool nu, .bool false, .bool false]) = .returned (.agg #[.int .i64 d.k, .slice d.sp d.sl d.sc, .slice (some ⟨g_, 0, none⟩) 2 kc_, .bool nu_, .bool false, .bool false]) ∧ R2 g_ kc_ nu_ W2_ ∧ (∀ i, W.heap.size + 2 ≤ i → (putP W2 (W.heap.size + 1) (.int .i64 d.k) (.slice d.sp d.sl d.sc) (.slice (some ⟨g, 0, none⟩) 2 kc) (.bool nu) (.bool false) (.bool false)).heap[i]? = W2_.heap[i]?) ∧ (putP W2 (W.heap.size + 1) (.int .i64 d.k) (.slice d.sp d.sl d.sc) (.slice (some ⟨g, 0, none⟩) 2 kc) (.bool nu) (.bool false) (.bool false)).heap.size = W2_.heap.size ∧ Below W.heap.size W (putP W2 (W.heap.size + 1) (.int .i64 d.k) (.slice d.sp d.sl d.sc) (.slice (some ⟨g, 0, none⟩) 2 kc) (.bool nu) (.bool false) (.bool false))) ⟨g, kc, nu, W2, rfl, hR2, fun i hi => putP_other (by omega), putP_size _ _ _ _ _ _ _ _, bF⟩
 clear hof' hb2 hR2 hbox bF b1 b1' y1' y2' q0 q1 q2 q3 q4 HSW
 go_wp2
 exact bodyPost_ret (w := putP W2 (W.heap.size + 1) _ _ _ _ _ _) (v := .agg #[.int .i64 d.k, .slice d.sp d.sl d.sc, .slice (some ⟨g, 0, none⟩) 2 kc, .bool nu, .bool false, .bool false]) (by simp [results, Tryz.results69, go_sem, r0, r1, r2, r3, r4, r5]) rfl FIN.out
theorem C6.moved {W W' : World} {b o b' o' : Nat} {k : Int} {sv kv : Value} {nu en go : Bool} (h : C6 W b o k sv kv nu en go) (hc : ∀ j, j < 6 → W'.cell? ⟨b', o' + j, none⟩ = W.cell? ⟨b, o + j, none⟩) : C6 W' b' o' k sv kv nu en go :=
 ⟨(hc 0 (by omega)).trans h.c0, (hc 1 (by omega)).trans h.c1, (hc 2 (by omega)).trans h.c2, (hc 3 (by omega)).trans h.c3, (hc 4 (by omega)).trans h.c4, (hc 5 (by omega)).trans h.c5⟩
theorem PR.moved {w0 W W' : World} {p : Ps} {b o b' o' lo hi : Nat} (h : PR w0 W p b o lo hi) (hc : ∀ j, j < 6 → W'.cell? ⟨b', o' + j, none⟩ = W.cell? ⟨b, o + j, none⟩) (hb : ∀ k, lo ≤ k → k < hi → W'.heap[k]? = W.heap[k]?) : PR w0 W' p b' o' lo hi := by
 cases p with
 | leaf k s nu en go =>
   unfold PR at h ⊢
   obtain ⟨h1, h2, sp, sc, kp, kc, h3, h4⟩ := h
   exact ⟨h1, h2, sp, sc, kp, kc, h3.moved hc, h4⟩
 | one k a nu en go =>
   unfold PR at h ⊢
   obtain ⟨h1, sv, g, kc, h3, h4, h5, h6, h7⟩ := h
   have hg := hb g h4 h5
   obtain ⟨cs, h6⟩ := h6
   exact ⟨h1, sv, g, kc, h3.moved hc, h4, h5, ⟨cs, hg.trans h6⟩, PR.keep h7 (fun j _ => cell_blk hg _) (fun k hk1 hk2 => hb k hk1 (by omega))⟩
 | two k x y nu en go =>
   unfold PR at h ⊢
   obtain ⟨h1, sv, g, kc, l1, h1', l2, h2', h3, h4, h5, h6, h7, h8, h9, h10, h11⟩ := h
   have hg := hb g h4 h5
   obtain ⟨cs, h6⟩ := h6
   exact ⟨h1, sv, g, kc, l1, h1', l2, h2', h3.moved hc, h4, h5, ⟨cs, hg.trans h6⟩, PR.keep h7 (fun j _ => cell_blk hg _) (fun k hk1 hk2 => hb k (by omega) (by omega)), PR.keep h8 (fun j _ => cell_blk hg _) (fun k hk1 hk2 => hb k (by omega) (by omega)), h9, h10, h11⟩
theorem bwd_any : ∀ (t : T), Vp t → HowC 69 (fun t => (rxOf t).rev.ps) t
 | .mk k a s n [], hV => by
   intro w0 W d hT hB
   rw [Vp] at hV
   obtain ⟨hk, hs⟩ := hV
   obtain ⟨rfl, e2, h1, e3, _⟩ := hT.parts8
   refine (bwd_walk d W (by rcases hk with h | h <;> rw [h] <;> rfl) (fun kp kl kc _ => kp = none ∧ kl = 0 ∧ kc = 0) (fun kp kl kc nu _ => kp = none ∧ kl = 0 ∧ kc = 0 ∧ nu = (!(d.k == 1))) ?_ ?_).mono ?_
   · intro X _ _
     rw [show d.kl = 0 from e3]
     refine (parts_none 69 d.kp d.kc X).mono ?_
     rintro e W' ⟨rfl, rfl⟩
     exact ⟨none, 0, 0, rfl, Below.refl _ _, rfl, rfl, rfl⟩
   · rintro kp kl kc W1 ⟨rfl, rfl, rfl⟩
     rcases hk with hk | hk
     · rw [hk]
       refine (partOf_1 d.sp d.sl d.sc W1).mono ?_
       rintro e W' ⟨rfl, hb⟩
       exact ⟨false, rfl, hb, rfl, rfl, rfl, rfl⟩
     · rw [hk]
       refine (partOf_3 d.sp d.sl d.sc W1).mono ?_
       rintro e W' ⟨rfl, hb⟩
       exact ⟨true, rfl, hb, rfl, rfl, rfl, rfl⟩
   · rintro e W' ⟨kp, kl, kc, nu, W2, rfl, ⟨rfl, rfl, rfl, rfl⟩, hblk, hsz, hb⟩
     refine ⟨_, rfl, ⟨d.k, d.sp, d.sl, d.sc, none, 0, 0, _, false, false, rfl, fun V b o c _ => ?_⟩, hb⟩
     show PR w0 V (rxOf (.mk d.k a s n [])).rev.ps b o _ _
     rw [rxOf, Rx.rev]
     rw [e2] at c
     exact pr_leaf hk hs c h1
 | .mk k a s n [x], hV => by
   intro w0 W d hT hB
   rw [Vp] at hV
   obtain ⟨hk, hx⟩ := hV
   have ih := bwd_any x hx
   obtain ⟨rfl, e2, _, e3, hK⟩ := hT.parts8
   refine (bwd_walk d W (by rcases hk with h | h | h <;> rw [h] <;> rfl) (fun kp kl kc W1 => ∃ g h1 lo, kp = some ⟨g, 0, none⟩ ∧ kl = 1 ∧ W.heap.size + 2 ≤ lo ∧ Row W1 g ∧ PR w0 W1 (rxOf x).rev.ps g 0 lo h1 ∧ lo ≤ g ∧ h1 ≤ g) (fun kp kl kc nu W2 => ∃ g h1 lo, kp = some ⟨g, 0, none⟩ ∧ kl = 1 ∧ W.heap.size + 2 ≤ lo ∧ Row W2 g ∧ PR w0 W2 (rxOf x).rev.ps g 0 lo h1 ∧ lo ≤ g ∧ h1 ≤ g ∧ nu = (Rx.one d.k (rxOf x).rev).nul) ?_ ?_).mono ?_
   · intro X hX hXs
     rw [show d.kl = 1 from e3]
     refine (parts_one69 _ x ih w0 X d.kp d.kc hK (hB.trans (hX.mono hB.size))).mono ?_
     rintro e W1 ⟨u, rfl, ho⟩
     obtain ⟨g, cap, h1, rfl, hr, hp, hg1, hg2, hb⟩ := one_end ho
     exact ⟨_, _, _, rfl, hb, g, h1, X.heap.size, rfl, rfl, hXs, hr, hp, hg1, hg2⟩
   · rintro kp kl kc W1 ⟨g, h1, lo, rfl, rfl, q1, hr, hp, q2, q3⟩
     have hn := hp.tell.1
     rw [(Rx.ps_ok _).2.2.2] at hn
     have hl := hr.lt
     have fin : ∀ (W2 : World), Below W1.heap.size W1 W2 → Row W2 g ∧ PR w0 W2 (rxOf x).rev.ps g 0 lo h1 := fun W2 hb => by
       have hg := hb.block g hl
       obtain ⟨cs, hr⟩ := hr
       exact ⟨⟨cs, hg.trans hr⟩, hp.keep (fun j _ => cell_blk hg _) (fun i _ hi => hb.block i (by omega))⟩
     rcases hk with hk | hk | hk
     · rw [hk]
       refine (partOf_6 d.sp d.sl d.sc g kc _ W1 hn).mono ?_
       rintro e W' ⟨rfl, hb⟩
       exact ⟨true, rfl, hb, g, h1, lo, rfl, rfl, q1, (fin _ hb).1, (fin _ hb).2, q2, q3, (nul_one _ (.inl rfl)).symm⟩
     · rw [hk]
       refine (partOf_7 d.sp d.sl d.sc g kc _ W1 hn).mono ?_
       rintro e W' ⟨rfl, hb⟩
       exact ⟨_, rfl, hb, g, h1, lo, rfl, rfl, q1, (fin _ hb).1, (fin _ hb).2, q2, q3, rfl⟩
     · rw [hk]
       refine (partOf_8 d.sp d.sl d.sc g kc _ W1 hn).mono ?_
       rintro e W' ⟨rfl, hb⟩
       exact ⟨true, rfl, hb, g, h1, lo, rfl, rfl, q1, (fin _ hb).1, (fin _ hb).2, q2, q3, (nul_one _ (.inr rfl)).symm⟩
   · rintro e W' ⟨kp, kl, kc, nu, W2, rfl, ⟨g, h1, lo, rfl, rfl, q1, hr, hp, q2, q3, rfl⟩, hblk, hsz, hb⟩
     have hl := hr.lt
     refine ⟨_, rfl, ⟨d.k, d.sp, d.sl, d.sc, some ⟨g, 0, none⟩, 1, kc, _, false, false, rfl, fun V b o c hv => ?_⟩, hb⟩
     show PR w0 V (rxOf (.mk d.k a s n [x])).rev.ps b o _ _
     rw [rxOf, Rx.rev]
     have hs := hb.size
     have hg : V.heap[g]? = W2.heap[g]? := (hv g (by omega) (by omega)).trans (hblk g (by omega))
     have hp' : PR w0 V (rxOf x).rev.ps g 0 lo h1 := hp.keep (fun j _ => cell_blk hg _) (fun i hi1 hi2 => (hv i (by omega) (by omega)).trans (hblk i (by omega)))
     obtain ⟨cs, hr⟩ := hr
     exact pr_one hk c (by omega) (by omega) ⟨cs, hg.trans hr⟩ (hp'.wide (by omega) q3)
 | .mk k a s n [x, y], hV => by
   intro w0 W d hT hB
   rw [Vp] at hV
   obtain ⟨hk, hx, hy⟩ := hV
   have ihx := bwd_any x hx
   have ihy := bwd_any y hy
   obtain ⟨rfl, e2, _, e3, hK⟩ := hT.parts8
   rcases hk with hk | hk
   · replace hk := hide hk
     refine (bwd_cat d W hk (fun g kc W1 => ∃ X : World, W.heap.size + 2 ≤ X.heap.size ∧ Two w0 X (rxOf x).rev.ps (rxOf y).rev.ps (.slice (some ⟨g, 0, none⟩) 2 kc) W1) (fun g kc nu W2 => ∃ X : World, W.heap.size + 2 ≤ X.heap.size ∧ Two w0 X (rxOf y).rev.ps (rxOf x).rev.ps (.slice (some ⟨g, 0, none⟩) 2 kc) W2 ∧ nu = (Rx.two 4 (rxOf y).rev (rxOf x).rev).nul) ?_ ?_).mono ?_
     · intro X hX hXs
       rw [show d.kl = 2 from e3]
       refine (parts_two69 _ x y ihx ihy w0 X d.kp d.kc hK (hB.trans (hX.mono hB.size))).mono ?_
       rintro e W1 ⟨u, rfl, ho⟩
       obtain ⟨g, cap, l1, h1, l2, h2, rfl, hr, hp, hq, i1, i2, i3, i4, i5, hb0, sl1, sl2⟩ := id ho
       obtain ⟨ka, spa, sla, sca, kpa, kla, kca, na, ea, ga, A⟩ := sl1
       obtain ⟨kb, spb, slb, scb, kpb, klb, kcb, nb, eb, gb, B⟩ := sl2
       exact ⟨g, cap, ka, spa, sla, sca, kpa, kla, kca, na, ea, ga, kb, spb, slb, scb, kpb, klb, kcb, nb, eb, gb, rfl, hb0, hr, A, B, by omega, X, hXs, ho⟩
     · rintro g kc W1 Ws ⟨X, hXs, g', cap, l1, h1, l2, h2, e, hr, hp, hq, i1, i2, i3, i4, i5, hb0, sl1, sl2⟩ hsw
       cases e
       have hs0 := hsw.size
       have hq' : PR w0 Ws (rxOf y).rev.ps g 0 l2 h2 := by
         refine hq.moved (fun j hj => ?_) (fun i hi1 hi2 => hsw.blk i (by omega))
         rw [Nat.zero_add]
         exact hsw.x j hj
       have hp' : PR w0 Ws (rxOf x).rev.ps g 6 l1 h1 := by
         refine hp.moved (fun j hj => ?_) (fun i hi1 hi2 => hsw.blk i (by omega))
         rw [Nat.zero_add]
         exact hsw.y j hj
       have hn := hq'.tell.1
       have hm := hp'.tell.1
       rw [(Rx.ps_ok _).2.2.2] at hn hm
       simp only [Nat.zero_add, Nat.reduceAdd] at hn hm
       have s1 : SL Ws g 0 := by
         obtain ⟨k, sp, sl, sc, kp, kl, kc, nu, en, go, h⟩ := sl2
         exact ⟨k, sp, sl, sc, kp, kl, kc, nu, en, go, h.moved (fun j hj => by rw [Nat.zero_add]; exact hsw.x j hj)⟩
       have s2 : SL Ws g 6 := by
         obtain ⟨k, sp, sl, sc, kp, kl, kc, nu, en, go, h⟩ := sl1
         exact ⟨k, sp, sl, sc, kp, kl, kc, nu, en, go, h.moved (fun j hj => by rw [Nat.zero_add]; exact hsw.y j hj)⟩
       have hrow := hsw.row
       have fin : ∀ (W2 : World), Below Ws.heap.size Ws W2 → Two w0 X (rxOf y).rev.ps (rxOf x).rev.ps (.slice (some ⟨g, 0, none⟩) 2 kc) W2 := fun W2 hb => by
         have hg := hb.block g (by omega)
         have hs := hb.size
         have hx0 := hb0.size
         obtain ⟨cs, hr⟩ := hrow
         exact ⟨g, kc, l2, h2, l1, h1, rfl, ⟨cs, hg.trans hr⟩, hq'.keep (fun j _ => cell_blk hg _) (fun i _ hi => hb.block i (by omega)), hp'.keep (fun j _ => cell_blk hg _) (fun i _ hi => hb.block i (by omega)), by omega, by omega, by omega, i4, by omega, (hb0.trans (hsw.below i4)).trans (hb.mono (by omega)), s1.keep hg, s2.keep hg⟩
       rw [hk.out]
       refine (partOf_4 d.sp d.sl d.sc g kc _ _ Ws hn hm).mono ?_
       rintro e W' ⟨rfl, hb⟩
       exact ⟨_, rfl, hb, X, hXs, fin _ hb, rfl⟩
     · rintro e W' ⟨g, kc, nu, W2, rfl, ⟨X, hXs, ⟨g', cap, l1, h1, l2, h2, e, hr, hp, hq, i1, i2, i3, i4, i5, hb0, _, _⟩, rfl⟩, hblk, hsz, hb⟩
       cases e
       refine ⟨_, rfl, ⟨d.k, d.sp, d.sl, d.sc, some ⟨g, 0, none⟩, 2, kc, _, false, false, rfl, fun V b o c hv => ?_⟩, hb⟩
       show PR w0 V (rxOf (.mk d.k a s n [x, y])).rev.ps b o _ _
       rw [rxOf, Rx.rev, if_pos hk.out]
       have hs := hb.size
       have hg : V.heap[g]? = W2.heap[g]? := (hv g (by omega) (by omega)).trans (hblk g (by omega))
       have hblk2 : ∀ i, X.heap.size ≤ i → i < W2.heap.size → V.heap[i]? = W2.heap[i]? := fun i hi1 hi2 => (hv i (by omega) (by omega)).trans (hblk i (by omega))
       obtain ⟨cs, hr⟩ := hr
       rw [hk.out] at c ⊢
       exact pr_two (.inl rfl) c (by omega) (by omega) ⟨cs, hg.trans hr⟩ (hp.keep (fun j _ => cell_blk hg _) (fun i hi1 hi2 => hblk2 i (by omega) (by omega))) (hq.keep (fun j _ => cell_blk hg _) (fun i hi1 hi2 => hblk2 i (by omega) (by omega))) (by omega) (by omega) i3
   · refine (bwd_walk d W (by rw [hk]; rfl) (fun kp kl kc W1 => ∃ X : World, W.heap.size + 2 ≤ X.heap.size ∧ Two w0 X (rxOf x).rev.ps (rxOf y).rev.ps (.slice kp kl kc) W1) (fun kp kl kc nu W2 => ∃ X : World, W.heap.size + 2 ≤ X.heap.size ∧ Two w0 X (rxOf x).rev.ps (rxOf y).rev.ps (.slice kp kl kc) W2 ∧ nu = (Rx.two d.k (rxOf x).rev (rxOf y).rev).nul) ?_ ?_).mono ?_
     · intro X hX hXs
       rw [show d.kl = 2 from e3]
       refine (parts_two69 _ x y ihx ihy w0 X d.kp d.kc hK (hB.trans (hX.mono hB.size))).mono ?_
       rintro e W1 ⟨u, rfl, ho⟩
       obtain ⟨g, cap, l1, h1, l2, h2, rfl, hrest⟩ := id ho
       exact ⟨_, _, _, rfl, hrest.2.2.2.2.2.2.2.2.1, X, hXs, ho⟩
     · rintro kp kl kc W1 ⟨X, hXs, g, cap, l1, h1, l2, h2, e, hr, hp, hq, i1, i2, i3, i4, i5, hb0, sl1, sl2⟩
       cases e
       have hn := hp.tell.1
       have hm := hq.tell.1
       rw [(Rx.ps_ok _).2.2.2] at hn hm
       simp only [Nat.zero_add, Nat.reduceAdd] at hn hm
       have fin : ∀ (W2 : World), Below W1.heap.size W1 W2 → Two w0 X (rxOf x).rev.ps (rxOf y).rev.ps (.slice (some ⟨g, 0, none⟩) 2 kc) W2 := fun W2 hb => by
         have hg := hb.block g i5
         have hs := hb.size
         have hx0 := hb0.size
         obtain ⟨cs, hr⟩ := hr
         exact ⟨g, kc, l1, h1, l2, h2, rfl, ⟨cs, hg.trans hr⟩, hp.keep (fun j _ => cell_blk hg _) (fun i _ hi => hb.block i (by omega)), hq.keep (fun j _ => cell_blk hg _) (fun i _ hi => hb.block i (by omega)), by omega, by omega, i3, i4, by omega, hb0.trans (hb.mono hx0), sl1.keep hg, sl2.keep hg⟩
       rw [hk]
       refine (partOf_5 d.sp d.sl d.sc g kc _ _ W1 hn hm).mono ?_
       rintro e W' ⟨rfl, hb⟩
       exact ⟨_, rfl, hb, X, hXs, fin _ hb, rfl⟩
     · rintro e W' ⟨kp, kl, kc, nu, W2, rfl, ⟨X, hXs, ⟨g, cap, l1, h1, l2, h2, e, hr, hp, hq, i1, i2, i3, i4, i5, hb0, _, _⟩, rfl⟩, hblk, hsz, hb⟩
       cases e
       refine ⟨_, rfl, ⟨d.k, d.sp, d.sl, d.sc, some ⟨g, 0, none⟩, 2, kc, _, false, false, rfl, fun V b o c hv => ?_⟩, hb⟩
       show PR w0 V (rxOf (.mk d.k a s n [x, y])).rev.ps b o _ _
       rw [rxOf, Rx.rev, if_neg (by omega)]
       have hs := hb.size
       have hg : V.heap[g]? = W2.heap[g]? := (hv g (by omega) (by omega)).trans (hblk g (by omega))
       have hblk2 : ∀ i, X.heap.size ≤ i → i < W2.heap.size → V.heap[i]? = W2.heap[i]? := fun i hi1 hi2 => (hv i (by omega) (by omega)).trans (hblk i (by omega))
       obtain ⟨cs, hr⟩ := hr
       exact pr_two (.inr hk) c (by omega) (by omega) ⟨cs, hg.trans hr⟩ (hp.keep (fun j _ => cell_blk hg _) (fun i hi1 hi2 => hblk2 i (by omega) (by omega))) (hq.keep (fun j _ => cell_blk hg _) (fun i hi1 hi2 => hblk2 i (by omega) (by omega))) (by omega) (by omega) i3
 | .mk k a s n (x :: y :: z :: ks), hV => by rw [Vp] at hV; exact hV.elim
end Go.Proofs.YteaaijhppmkfeaaGreatDoor
