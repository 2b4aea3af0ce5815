/- Joined: Fwr. -/
import Derived.Test.YtemanednddhfaaaGreatDoorMFwd
import Derived.Maps.AppendAt
namespace Go.Proofs.YtemanednddhfaaaGreatDoor
open Go.RowKit
open E (Ps Rx T)
attribute [local go_sem] Oper.semAt_some
set_option maxRecDepth 100000 in
set_option maxHeartbeats 2000000 in
theorem parts_one69 (f : T → Ps) (x0 : T) (hx0 : HowC 67 f x0) (w0 W : World) (kp : Option Addr) (kc : Nat) (hK : KR w0 (fun _ => True) [x0] kp 0) (hB : Below w0.heap.size w0 W) :
   Calls Tryz.prog 95 #[.slice kp 1 kc, .func (.func 67) #[] #[]] W fun e W' => ∃ u, e = .returned u ∧ One w0 W (f x0) u W' := by
 rw [KR] at hK
 obtain ⟨⟨b, off, v, rfl, _, hT0, hC0⟩, _⟩ := hK
 rw [show off + 0 * 5 = off by omega] at hC0
 obtain ⟨d0, rfl, hdd⟩ := hT0.nd
 clear hdd
 have hbl0 := cells5_lt hC0
 obtain ⟨i0, hi0, hz0, hz1, hz2⟩ := info_parts8 info147
 have es := elemSize24F
 go_enter Tryz.func95, Tryz.ntmps95
 go_wp2
 go_loopw [5, 10] (fun u v wr => (u = .slice none 0 0 ∧ v = .int .i64 0 ∧ Below W.heap.size W wr) ∨ (v = .int .i64 1 ∧ One w0 W (f x0) u wr)) (fun _ v _ => 1 - (intOf v).toNat)
 case atStart => exact .inl ⟨rfl, rfl, Below.refl _ _⟩
 case round =>
   rcases hrel with ⟨rfl, rfl, hB2⟩ | ⟨rfl, ho⟩
   · have hB1 : Below w0.heap.size w0 wr := hB.trans (hB2.mono hB.size)
     obtain ⟨c0, c1, c2, c3, c4⟩ := c5_at hC0 hB1
     have a1 := al1 wr (.cells #[.int .i64 d0.k, .int .i64 d0.a, .slice d0.sp d0.sl d0.sc, .string d0.n, .slice d0.kp d0.kl d0.kc] 26)
     have hcall := hx0 w0 (wr.alloc (.cells #[.int .i64 d0.k, .int .i64 d0.a, .slice d0.sp d0.sl d0.sc, .string d0.n, .slice d0.kp d0.kl d0.kc] 26)) d0 hT0 (hB1.trans (a1.mono hB1.size))
     have hbW : b < wr.heap.size := by have := hB1.size; omega
     unfold ND.v at hcall
     go_wp2_with fail
     refine hcall.mono ?_
     rintro e w2 ⟨v, rfl, hpv, hb2⟩
     obtain ⟨k, sp, sl, sc, kp, kl, kc, nu, en, go, rfl, hmk⟩ := hpv
     have z1 := World.size_alloc wr (.cells #[.int .i64 d0.k, .int .i64 d0.a, .slice d0.sp d0.sl d0.sc, .string d0.n, .slice d0.kp d0.kl d0.kc] 26)
     have z2 := hb2.size
     have bb := nx a1 hb2
     have HMK : Hid (Mk w0 w2 (f x0) (wr.alloc (.cells #[.int .i64 d0.k, .int .i64 d0.a, .slice d0.sp d0.sl d0.sc, .string d0.n, .slice d0.kp d0.kl d0.kc] 26)).heap.size w2.heap.size (six k sp sl sc kp kl kc nu en go)) := hide ⟨k, sp, sl, sc, kp, kl, kc, nu, en, go, rfl, hmk⟩
     unfold six
     clear hcall c0 c1 c2 c3 c4 hmk
     go_wp2_with (at_builtin; refine wpList_append_own_at _ rfl _ _ 145 rfl w2.heap.size 147 i0 _ 6 64 Tryz.underlying145 hi0 hz0 hz1 hz2 rfl (by decide) (.slice none 0 0) 0 [] rfl (World.ownsRow_nil _ _ _ _) ⟨w2.heap.size, 0, none⟩ 1 1 (six k sp sl sc kp kl kc nu en go) rfl rfl (new_cells8 _ _ _ _ rfl) (six_one _ _ _ _ _ _ _ _ _ _) (by unfold maxLen; omega) (by omega) (by have := z2; simp; try omega) ?_; intro v' w3 hown hgrow _ hat)
     have ho := one_step HMK.out hown hgrow (hB2.trans (bb.mono hB2.size)) (by have := hB2.size; omega) z2
     go_roundw
     case rel => exact .inr ⟨by first | rfl | go_num, ho⟩
     case measure => simp [intOf]
   · obtain ⟨g, cap, h1, rfl, _⟩ := one_end ho
     have HO := hide ho
     clear ho
     go_wp2
     go_ret
     exact ⟨_, rfl, HO.out⟩
set_option maxRecDepth 100000 in
set_option maxHeartbeats 2000000 in
theorem parts_two69 (f : T → Ps) (x0 x1 : T) (hx0 : HowC 67 f x0) (hx1 : HowC 67 f x1) (w0 W : World) (kp : Option Addr) (kc : Nat) (hK : KR w0 (fun _ => True) [x0, x1] kp 0) (hB : Below w0.heap.size w0 W) :
   Calls Tryz.prog 95 #[.slice kp 2 kc, .func (.func 67) #[] #[]] W fun e W' => ∃ u, e = .returned u ∧ Two w0 W (f x0) (f x1) u W' := by
 rw [KR, KR] at hK
 obtain ⟨⟨b, off, v, rfl, _, hT0, hC0⟩, ⟨b', off', v1, e1, _, hT1, hC1⟩, _⟩ := hK
 cases e1
 rw [show off + 0 * 5 = off by omega] at hC0
 rw [show off + (0 + 1) * 5 = off + 5 by omega] at hC1
 obtain ⟨d0, rfl, hdd⟩ := hT0.nd
 clear hdd
 have hbl0 := cells5_lt hC0
 obtain ⟨d1, rfl, hdd⟩ := hT1.nd
 clear hdd
 have hbl1 := cells5_lt hC1
 obtain ⟨i0, hi0, hz0, hz1, hz2⟩ := info_parts8 info147
 have es := elemSize24F
 go_enter Tryz.func95, Tryz.ntmps95
 go_wp2
 go_loopw [5, 10] (fun u v wr => (u = .slice none 0 0 ∧ v = .int .i64 0 ∧ Below W.heap.size W wr) ∨ (v = .int .i64 1 ∧ One w0 W (f x0) u wr) ∨ (v = .int .i64 2 ∧ Two w0 W (f x0) (f x1) u wr)) (fun _ v _ => 2 - (intOf v).toNat)
 case atStart => exact .inl ⟨rfl, rfl, Below.refl _ _⟩
 case round =>
   rcases hrel with ⟨rfl, rfl, hB2⟩ | ⟨rfl, ho⟩ | ⟨rfl, ho⟩
   · have hB1 : Below w0.heap.size w0 wr := hB.trans (hB2.mono hB.size)
     obtain ⟨c0, c1, c2, c3, c4⟩ := c5_at hC0 hB1
     have a1 := al1 wr (.cells #[.int .i64 d0.k, .int .i64 d0.a, .slice d0.sp d0.sl d0.sc, .string d0.n, .slice d0.kp d0.kl d0.kc] 26)
     have hcall := hx0 w0 (wr.alloc (.cells #[.int .i64 d0.k, .int .i64 d0.a, .slice d0.sp d0.sl d0.sc, .string d0.n, .slice d0.kp d0.kl d0.kc] 26)) d0 hT0 (hB1.trans (a1.mono hB1.size))
     have hbW : b < wr.heap.size := by have := hB1.size; omega
     unfold ND.v at hcall
     go_wp2_with fail
     refine hcall.mono ?_
     rintro e w2 ⟨v, rfl, hpv, hb2⟩
     obtain ⟨k, sp, sl, sc, kp, kl, kc, nu, en, go, rfl, hmk⟩ := hpv
     have z1 := World.size_alloc wr (.cells #[.int .i64 d0.k, .int .i64 d0.a, .slice d0.sp d0.sl d0.sc, .string d0.n, .slice d0.kp d0.kl d0.kc] 26)
     have z2 := hb2.size
     have bb := nx a1 hb2
     have HMK : Hid (Mk w0 w2 (f x0) (wr.alloc (.cells #[.int .i64 d0.k, .int .i64 d0.a, .slice d0.sp d0.sl d0.sc, .string d0.n, .slice d0.kp d0.kl d0.kc] 26)).heap.size w2.heap.size (six k sp sl sc kp kl kc nu en go)) := hide ⟨k, sp, sl, sc, kp, kl, kc, nu, en, go, rfl, hmk⟩
     unfold six
     clear hcall c0 c1 c2 c3 c4 hmk
     go_wp2_with (at_builtin; refine wpList_append_own_at _ rfl _ _ 145 rfl w2.heap.size 147 i0 _ 6 64 Tryz.underlying145 hi0 hz0 hz1 hz2 rfl (by decide) (.slice none 0 0) 0 [] rfl (World.ownsRow_nil _ _ _ _) ⟨w2.heap.size, 0, none⟩ 1 1 (six k sp sl sc kp kl kc nu en go) rfl rfl (new_cells8 _ _ _ _ rfl) (six_one _ _ _ _ _ _ _ _ _ _) (by unfold maxLen; omega) (by omega) (by have := z2; simp; try omega) ?_; intro v' w3 hown hgrow _ hat)
     have ho := one_step HMK.out hown hgrow (hB2.trans (bb.mono hB2.size)) (by have := hB2.size; omega) z2
     go_roundw
     case rel => exact .inr (.inl ⟨by first | rfl | go_num, ho⟩)
     case measure => simp [intOf]
   · obtain ⟨cs1, lo, hi, hlo, hlh, hm1, ho1, hB2⟩ := ho
     obtain ⟨g, cap, rfl, hr1, hg1, _, _⟩ := own_cell8 ho1 (by omega)
     have hlt := hr1.lt
     have hB1 : Below w0.heap.size w0 wr := hB.trans (hB2.mono hB.size)
     have HO1 := hide ho1
     have HM1 := hide hm1
     clear hm1 ho1
     obtain ⟨c0, c1, c2, c3, c4⟩ := c5_at hC1 hB1
     have a1 := al1 wr (.cells #[.int .i64 d1.k, .int .i64 d1.a, .slice d1.sp d1.sl d1.sc, .string d1.n, .slice d1.kp d1.kl d1.kc] 26)
     have hcall := hx1 w0 (wr.alloc (.cells #[.int .i64 d1.k, .int .i64 d1.a, .slice d1.sp d1.sl d1.sc, .string d1.n, .slice d1.kp d1.kl d1.kc] 26)) d1 hT1 (hB1.trans (a1.mono hB1.size))
     have hbW : b < wr.heap.size := by have := hB1.size; omega
     unfold ND.v at hcall
     go_wp2_with fail
     refine hcall.mono ?_
     rintro e w2 ⟨v, rfl, hpv, hb2⟩
     obtain ⟨k, sp, sl, sc, kp, kl, kc, nu, en, go, rfl, hmk⟩ := hpv
     have z1 := World.size_alloc wr (.cells #[.int .i64 d1.k, .int .i64 d1.a, .slice d1.sp d1.sl d1.sc, .string d1.n, .slice d1.kp d1.kl d1.kc] 26)
     have z2 := hb2.size
     have bb := nx a1 hb2
     have HMK : Hid (Mk w0 w2 (f x1) (wr.alloc (.cells #[.int .i64 d1.k, .int .i64 d1.a, .slice d1.sp d1.sl d1.sc, .string d1.n, .slice d1.kp d1.kl d1.kc] 26)).heap.size w2.heap.size (six k sp sl sc kp kl kc nu en go)) := hide ⟨k, sp, sl, sc, kp, kl, kc, nu, en, go, rfl, hmk⟩
     unfold six
     clear hcall c0 c1 c2 c3 c4 hmk
     go_wp2_with (at_builtin; refine wpList_append_own_at _ rfl _ _ 145 rfl hi 147 i0 _ 6 64 Tryz.underlying145 hi0 hz0 hz1 hz2 rfl (by decide) (.slice (some ⟨g, 0, none⟩) 1 cap) 1 cs1 rfl (HO1.out.kept (grown_below (bb.trans ((al1 w2 _).mono bb.size)) none) (by simp [Value.ownBlock])) ⟨w2.heap.size, 0, none⟩ 1 1 (six k sp sl sc kp kl kc nu en go) rfl rfl (new_cells8 _ _ _ _ rfl) (six_one _ _ _ _ _ _ _ _ _ _) (by unfold maxLen; omega) (by omega) (by have := z2; simp; try omega) ?_; intro v' w3 hown hgrow _ hat)
     have ho := two_step hlo hlh (HM1.out.later (fun i _ hi => ((nx a1 hb2).block i (by omega)))) (HO1.out.kept (grown_below a1 none) (by simp [Value.ownBlock])) HMK.out hown hgrow hat (hB2.trans (bb.mono hB2.size)) (by omega) z2
     go_roundw
     case rel => exact .inr (.inr ⟨by first | rfl | go_num, ho⟩)
     case measure => simp [intOf]
   · obtain ⟨g, cap, l1, h1, l2, h2, rfl, _⟩ := id ho
     have HO := hide ho
     clear ho
     go_wp2
     go_ret
     exact ⟨_, rfl, HO.out⟩
namespace E
def Rx.rev : Rx → Rx
 | .leaf k s => .leaf k s
 | .one k a => .one k a.rev
 | .two k a b => if k = 4 then .two k b.rev a.rev else .two k a.rev b.rev
end E
open E (rxOf Vp)
def putA (w : World) (g o : Nat) (v0 v1 v2 v3 v4 v5 : Value) : World := (((((w.setCell ⟨g, o, none⟩ v0).setCell ⟨g, o + 1, none⟩ v1).setCell ⟨g, o + 2, none⟩ v2).setCell ⟨g, o + 3, none⟩ v3).setCell ⟨g, o + 4, none⟩ v4).setCell ⟨g, o + 5, none⟩ v5
theorem putA_blk (w : World) (g o : Nat) (v0 v1 v2 v3 v4 v5 : Value) {k : Nat} (h : k ≠ g) : (putA w g o v0 v1 v2 v3 v4 v5).heap[k]? = w.heap[k]? := by
 unfold putA
 rw [Below.heap_setCell _ _ _ _ h, Below.heap_setCell _ _ _ _ h, Below.heap_setCell _ _ _ _ h, Below.heap_setCell _ _ _ _ h, Below.heap_setCell _ _ _ _ h, Below.heap_setCell _ _ _ _ h]
theorem putA_row {w : World} {g : Nat} (h : Row w g) (o : Nat) (v0 v1 v2 v3 v4 v5 : Value) : Row (putA w g o v0 v1 v2 v3 v4 v5) g := (((((h.set _ _).set _ _).set _ _).set _ _).set _ _).set _ _
theorem putA_size (w : World) (g o : Nat) (v0 v1 v2 v3 v4 v5 : Value) : (putA w g o v0 v1 v2 v3 v4 v5).heap.size = w.heap.size := by simp [putA, World.setCell]
theorem set_os (w : World) (p : Addr) (v : Value) : (w.setCell p v).os = w.os ∧ (w.setCell p v).tape = w.tape ∧ (w.setCell p v).output = w.output := ⟨rfl, rfl, rfl⟩
theorem putA_os (w : World) (g o : Nat) (v0 v1 v2 v3 v4 v5 : Value) : (putA w g o v0 v1 v2 v3 v4 v5).os = w.os ∧ (putA w g o v0 v1 v2 v3 v4 v5).tape = w.tape ∧ (putA w g o v0 v1 v2 v3 v4 v5).output = w.output := by
 unfold putA
 simp only [(set_os _ _ _).1, (set_os _ _ _).2.1, (set_os _ _ _).2.2, and_self]
theorem putA_off (w : World) (g o : Nat) (v0 v1 v2 v3 v4 v5 : Value) {j : Nat} (h : j < o ∨ o + 6 ≤ j) : (putA w g o v0 v1 v2 v3 v4 v5).cell? ⟨g, j, none⟩ = w.cell? ⟨g, j, none⟩ := by
 unfold putA
 rw [cell_set_other (.inr (by omega)), cell_set_other (.inr (by omega)), cell_set_other (.inr (by omega)), cell_set_other (.inr (by omega)), cell_set_other (.inr (by omega)), cell_set_other (.inr (by omega))]
theorem putA_c6 {w : World} {g o : Nat} {k0 : Int} {s0 v0 : Value} {a0 b0 c0 : Bool} (h : C6 w g o k0 s0 v0 a0 b0 c0) (k : Int) (sv kv : Value) (nu en go : Bool) : C6 (putA w g o (.int .i64 k) sv kv (.bool nu) (.bool en) (.bool go)) g o k sv kv nu en go := by
 unfold putA
 refine ⟨?_, ?_, ?_, ?_, ?_, ?_⟩
 · rw [cell_set_other (.inr (by omega)), cell_set_other (.inr (by omega)), cell_set_other (.inr (by omega)), cell_set_other (.inr (by omega)), cell_set_other (.inr (by omega))]
   exact cell_set_same h.c0
 · rw [cell_set_other (.inr (by omega)), cell_set_other (.inr (by omega)), cell_set_other (.inr (by omega)), cell_set_other (.inr (by omega))]
   exact cell_set_same (u := s0) (by rw [cell_set_other (.inr (by omega))]; exact h.c1)
 · rw [cell_set_other (.inr (by omega)), cell_set_other (.inr (by omega)), cell_set_other (.inr (by omega))]
   exact cell_set_same (u := v0) (by rw [cell_set_other (.inr (by omega)), cell_set_other (.inr (by omega))]; exact h.c2)
 · rw [cell_set_other (.inr (by omega)), cell_set_other (.inr (by omega))]
   exact cell_set_same (u := .bool a0) (by rw [cell_set_other (.inr (by omega)), cell_set_other (.inr (by omega)), cell_set_other (.inr (by omega))]; exact h.c3)
 · rw [cell_set_other (.inr (by omega))]
   exact cell_set_same (u := .bool b0) (by rw [cell_set_other (.inr (by omega)), cell_set_other (.inr (by omega)), cell_set_other (.inr (by omega)), cell_set_other (.inr (by omega))]; exact h.c4)
 · exact cell_set_same (u := .bool c0) (by rw [cell_set_other (.inr (by omega)), cell_set_other (.inr (by omega)), cell_set_other (.inr (by omega)), cell_set_other (.inr (by omega)), cell_set_other (.inr (by omega))]; exact h.c5)
theorem C6.nth {W : World} {b o : Nat} {k : Int} {sv kv : Value} {nu en go : Bool} (h : C6 W b o k sv kv nu en go) : ∀ j, j < 6 → W.cell? ⟨b, o + j, none⟩ = [Value.int .i64 k, sv, kv, .bool nu, .bool en, .bool go][j]?
 | 0, _ => h.c0
 | 1, _ => h.c1
 | 2, _ => h.c2
 | 3, _ => h.c3
 | 4, _ => h.c4
 | 5, _ => h.c5
theorem swp_of {w : World} {g : Nat} {ka : Int} {sa va : Value} {na ea ga : Bool} {kb : Int} {sb vb : Value} {nb eb gb : Bool} (hr : Row w g) (A : C6 w g 0 ka sa va na ea ga) (B : C6 w g 6 kb sb vb nb eb gb) :
   Swp g w (putA (putA w g 0 (.int .i64 kb) sb vb (.bool nb) (.bool eb) (.bool gb)) g 6 (.int .i64 ka) sa va (.bool na) (.bool ea) (.bool ga)) := by
 have h1 := putA_c6 A kb sb vb nb eb gb
 have h2 : C6 (putA w g 0 (.int .i64 kb) sb vb (.bool nb) (.bool eb) (.bool gb)) g 6 kb sb vb nb eb gb := B.keep (fun j _ => putA_off _ _ _ _ _ _ _ _ _ (.inr (by omega)))
 have h3 := putA_c6 h2 ka sa va na ea ga
 have h4 : C6 (putA (putA w g 0 (.int .i64 kb) sb vb (.bool nb) (.bool eb) (.bool gb)) g 6 (.int .i64 ka) sa va (.bool na) (.bool ea) (.bool ga)) g 0 kb sb vb nb eb gb := h1.keep (fun j hj => putA_off _ _ _ _ _ _ _ _ _ (.inl (by omega)))
 refine ⟨fun j hj => ?_, fun j hj => ?_, fun k hk => ?_, putA_row (putA_row hr _ _ _ _ _ _ _) _ _ _ _ _ _ _, ?_, (putA_os _ _ _ _ _ _ _ _ _).1.trans (putA_os _ _ _ _ _ _ _ _ _).1, (putA_os _ _ _ _ _ _ _ _ _).2.1.trans (putA_os _ _ _ _ _ _ _ _ _).2.1, (putA_os _ _ _ _ _ _ _ _ _).2.2.trans (putA_os _ _ _ _ _ _ _ _ _).2.2⟩
 · have e1 := h4.nth j hj
   rw [Nat.zero_add] at e1
   exact e1.trans (B.nth j hj).symm
 · have e1 := A.nth j hj
   rw [Nat.zero_add] at e1
   exact (h3.nth j hj).trans e1.symm
 · exact (putA_blk _ _ _ _ _ _ _ _ _ hk).trans (putA_blk _ _ _ _ _ _ _ _ _ hk)
 · exact (putA_size _ _ _ _ _ _ _ _ _).trans (putA_size _ _ _ _ _ _ _ _ _)
set_option maxRecDepth 100000 in
set_option maxHeartbeats 2000000 in
theorem bwd_walk (d : ND) (W : World) (hk4 : (d.k == 4) = false) (R : Option Addr → Nat → Nat → World → Prop) (R2 : Option Addr → Nat → Nat → Bool → World → Prop)
   (hparts : ∀ X, Below W.heap.size W X → W.heap.size + 2 ≤ X.heap.size → Calls Tryz.prog 95 #[.slice d.kp d.kl d.kc, .func (.func 67) #[] #[]] X fun e W1 => ∃ kp kl kc, e = .returned (.slice kp kl kc) ∧ Below X.heap.size X W1 ∧ R kp kl kc W1)
   (hof : ∀ kp kl kc W1, R kp kl kc W1 → Calls Tryz.prog 94 #[.int .i64 d.k, .slice d.sp d.sl d.sc, .slice kp kl kc] W1 fun e W2 => ∃ nu, e = .returned (.agg #[.int .i64 d.k, .slice d.sp d.sl d.sc, .slice kp kl kc, .bool nu, .bool false, .bool false]) ∧ Below W1.heap.size W1 W2 ∧ R2 kp kl kc nu W2) :
   Calls Tryz.prog 67 #[d.v] W fun e W' => ∃ kp kl kc nu W2, e = .returned (.agg #[.int .i64 d.k, .slice d.sp d.sl d.sc, .slice kp kl kc, .bool nu, .bool false, .bool false]) ∧ R2 kp kl kc nu W2 ∧ (∀ i, W.heap.size + 2 ≤ i → W'.heap[i]? = W2.heap[i]?) ∧ W'.heap.size = W2.heap.size ∧ Below W.heap.size W W' := by
 have a1 := al1 W (.cells #[.int .i64 d.k, .int .i64 d.a, .slice d.sp d.sl d.sc, .string d.n, .slice d.kp d.kl d.kc] 26)
 have a2 := al1 (W.alloc (.cells #[.int .i64 d.k, .int .i64 d.a, .slice d.sp d.sl d.sc, .string d.n, .slice d.kp d.kl d.kc] 26)) (.cells #[.int .i64 0, .slice none 0 0, .slice none 0 0, .bool false, .bool false, .bool false] 147)
 have n1 := heap_alloc_new W (.cells #[.int .i64 d.k, .int .i64 d.a, .slice d.sp d.sl d.sc, .string d.n, .slice d.kp d.kl d.kc] 26)
 have n2 := heap_alloc_new (W.alloc (.cells #[.int .i64 d.k, .int .i64 d.a, .slice d.sp d.sl d.sc, .string d.n, .slice d.kp d.kl d.kc] 26)) (.cells #[.int .i64 0, .slice none 0 0, .slice none 0 0, .bool false, .bool false, .bool false] 147)
 have x1 := (a2.block W.heap.size (by simp)).trans n1
 have x2 := n2
 rw [World.size_alloc] at x2
 have bX := nx a1 a2
 have sX : ((W.alloc (.cells #[.int .i64 d.k, .int .i64 d.a, .slice d.sp d.sl d.sc, .string d.n, .slice d.kp d.kl d.kc] 26)).alloc (.cells #[.int .i64 0, .slice none 0 0, .slice none 0 0, .bool false, .bool false, .bool false] 147)).heap.size = W.heap.size + 2 := by simp
 have hp := hparts _ bX (by rw [sX]; exact Nat.le_refl _)
 unfold ND.v
 go_enter Tryz.func67, Tryz.ntmps67
 go_wp2_with fail
 refine hp.mono ?_
 rintro e W1 ⟨kp, kl, kc, rfl, hb1, hR⟩
 have hs1 := hb1.size
 have b1 := nx bX hb1
 have y1 := (hb1.block W.heap.size (by omega)).trans x1
 have y2 := (hb1.block (W.heap.size + 1) (by omega)).trans x2
 have hof' := hof kp kl kc W1 hR
 have z1 : W.heap.size + 2 ≤ W1.heap.size := by omega
 clear hp hparts hof hb1 x1 x2 n1 n2 a1 a2 hs1 bX sX
 obtain ⟨q0, q1, q2, q3, q4⟩ := cells_five y1
 go_wp2_with fail
 refine hof'.mono ?_
 rintro e W2 ⟨nu, rfl, hb2, hR2⟩
 have hbox := (hb2.block (W.heap.size + 1) (by omega)).trans y2
 obtain ⟨p0, p1, p2, p3, p4, p5⟩ := cells_six hbox
 have fz : ∀ j, W2.frozen? ⟨W.heap.size + 1, j, none⟩ = false := fun j => by simp [World.frozen?, hbox]
 have s2 := hb2.size
 obtain ⟨r0, r1, r2, r3, r4, r5⟩ := cells_six (putP_box (v0 := .int .i64 d.k) (v1 := .slice d.sp d.sl d.sc) (v2 := .slice kp kl kc) (v3 := .bool nu) (v4 := .bool false) (v5 := .bool false) hbox)
 have bF : Below W.heap.size W (putP W2 (W.heap.size + 1) (.int .i64 d.k) (.slice d.sp d.sl d.sc) (.slice kp kl kc) (.bool nu) (.bool false) (.bool false)) := putP_below (nx b1 hb2) (by omega)
 have FIN := hide (p := ∃ kp' kl' kc' nu' W2', Ending.returned (.agg #[.int .i64 d.k, .slice d.sp d.sl d.sc, .slice kp kl kc, .bool nu, .bool false, .bool false]) = .returned (.agg #[.int .i64 d.k, .slice d.sp d.sl d.sc, .slice kp' kl' kc', .bool nu', .bool false, .bool false]) ∧ R2 kp' kl' kc' nu' W2' ∧ (∀ i, W.heap.size + 2 ≤ i → (putP W2 (W.heap.size + 1) (.int .i64 d.k) (.slice d.sp d.sl d.sc) (.slice kp kl kc) (.bool nu) (.bool false) (.bool false)).heap[i]? = W2'.heap[i]?) ∧ (putP W2 (W.heap.size + 1) (.int .i64 d.k) (.slice d.sp d.sl d.sc) (.slice kp kl kc) (.bool nu) (.bool false) (.bool false)).heap.size = W2'.heap.size ∧ Below W.heap.size W (putP W2 (W.heap.size + 1) (.int .i64 d.k) (.slice d.sp d.sl d.sc) (.slice kp kl kc) (.bool nu) (.bool false) (.bool false))) ⟨kp, kl, kc, nu, W2, rfl, hR2, fun i hi => putP_other (by omega), putP_size _ _ _ _ _ _ _ _, bF⟩
 clear hof' hb2 hR2 hbox bF b1 hR y1 y2 q0 q1 q2 q3 q4
 go_wp2
 exact bodyPost_ret (w := putP W2 (W.heap.size + 1) _ _ _ _ _ _) (v := .agg #[.int .i64 d.k, .slice d.sp d.sl d.sc, .slice kp kl kc, .bool nu, .bool false, .bool false]) (by simp [results, Tryz.results67, go_sem, r0, r1, r2, r3, r4, r5]) rfl FIN.out
set_option maxRecDepth 100000 in
set_option maxHeartbeats 2000000 in
theorem bwd_cat (d : ND) (W : World) (hk4 : Hid (d.k = 4)) (R : Nat → Nat → World → Prop) (R2 : Nat → Nat → Bool → World → Prop)
   (hparts : ∀ X, Below W.heap.size W X → W.heap.size + 2 ≤ X.heap.size → Calls Tryz.prog 95 #[.slice d.kp d.kl d.kc, .func (.func 67) #[] #[]] X fun e W1 => ∃ g kc ka spa sla sca kpa kla kca na ea ga kb spb slb scb kpb klb kcb nb eb gb, e = .returned (.slice (some ⟨g, 0, none⟩) 2 kc) ∧ Below X.heap.size X W1 ∧ Row W1 g ∧ C6 W1 g 0 ka (.slice spa sla sca) (.slice kpa kla kca) na ea ga ∧ C6 W1 g 6 kb (.slice spb slb scb) (.slice kpb klb kcb) nb eb gb ∧ W.heap.size + 2 ≤ g ∧ R g kc W1)
   (hof : ∀ g kc W1 Ws, R g kc W1 → Swp g W1 Ws → Calls Tryz.prog 94 #[.int .i64 d.k, .slice d.sp d.sl d.sc, .slice (some ⟨g, 0, none⟩) 2 kc] Ws fun e W2 => ∃ nu, e = .returned (.agg #[.int .i64 d.k, .slice d.sp d.sl d.sc, .slice (some ⟨g, 0, none⟩) 2 kc, .bool nu, .bool false, .bool false]) ∧ Below Ws.heap.size Ws W2 ∧ R2 g kc nu W2) :
   Calls Tryz.prog 67 #[d.v] W fun e W' => ∃ g kc nu W2, e = .returned (.agg #[.int .i64 d.k, .slice d.sp d.sl d.sc, .slice (some ⟨g, 0, none⟩) 2 kc, .bool nu, .bool false, .bool false]) ∧ R2 g kc nu W2 ∧ (∀ i, W.heap.size + 2 ≤ i → W'.heap[i]? = W2.heap[i]?) ∧ W'.heap.size = W2.heap.size ∧ Below W.heap.size W W' := by
 have a1 := al1 W (.cells #[.int .i64 d.k, .int .i64 d.a, .slice d.sp d.sl d.sc, .string d.n, .slice d.kp d.kl d.kc] 26)
 have a2 := al1 (W.alloc (.cells #[.int .i64 d.k, .int .i64 d.a, .slice d.sp d.sl d.sc, .string d.n, .slice d.kp d.kl d.kc] 26)) (.cells #[.int .i64 0, .slice none 0 0, .slice none 0 0, .bool false, .bool false, .bool false] 147)
 have n1 := heap_alloc_new W (.cells #[.int .i64 d.k, .int .i64 d.a, .slice d.sp d.sl d.sc, .string d.n, .slice d.kp d.kl d.kc] 26)
 have n2 := heap_alloc_new (W.alloc (.cells #[.int .i64 d.k, .int .i64 d.a, .slice d.sp d.sl d.sc, .string d.n, .slice d.kp d.kl d.kc] 26)) (.cells #[.int .i64 0, .slice none 0 0, .slice none 0 0, .bool false, .bool false, .bool false] 147)
 have x1 := (a2.block W.heap.size (by simp)).trans n1
 have x2 := n2
 rw [World.size_alloc] at x2
 have bX := nx a1 a2
 have sX : ((W.alloc (.cells #[.int .i64 d.k, .int .i64 d.a, .slice d.sp d.sl d.sc, .string d.n, .slice d.kp d.kl d.kc] 26)).alloc (.cells #[.int .i64 0, .slice none 0 0, .slice none 0 0, .bool false, .bool false, .bool false] 147)).heap.size = W.heap.size + 2 := by simp
 have hp := hparts _ bX (by rw [sX]; exact Nat.le_refl _)
 unfold ND.v
 go_enter Tryz.func67, Tryz.ntmps67
 go_wp2_with fail
 refine hp.mono ?_
 rintro e W1 ⟨g, kc, ka, spa, sla, sca, kpa, kla, kca, na, ea, ga, kb, spb, slb, scb, kpb, klb, kcb, nb, eb, gb, rfl, hb1, hrow, A, B, hg, hR⟩
 have hs1 := hb1.size
 have b1 := nx bX hb1
 have y1 := (hb1.block W.heap.size (by omega)).trans x1
 have y2 := (hb1.block (W.heap.size + 1) (by omega)).trans x2
 have z1 : W.heap.size + 2 ≤ W1.heap.size := by omega
 have hsw := (swp_of hrow A B).drew
 obtain ⟨A0, A1, A2, A3, A4, A5⟩ := A
 obtain ⟨B0, B1, B2, B3, B4, B5⟩ := B
 simp only [Nat.zero_add, Nat.reduceAdd] at A0 A1 A2 A3 A4 A5 B0 B1 B2 B3 B4 B5
 have fr := hrow.frz
 have hgl := hrow.lt
 have es := elemSize145
 obtain ⟨Ws, hWs⟩ : ∃ Ws, (putA (putA W1 g 0 (.int .i64 kb) (.slice spb slb scb) (.slice kpb klb kcb) (.bool nb) (.bool eb) (.bool gb)) g 6 (.int .i64 ka) (.slice spa sla sca) (.slice kpa kla kca) (.bool na) (.bool ea) (.bool ga)).drew = Ws := ⟨_, rfl⟩
 rw [hWs] at hsw
 have HSW := hide hsw
 have HWS := hide hWs
 have hof' := hof g kc W1 Ws hR hsw
 clear hp hparts hof hb1 x1 x2 n1 n2 a1 a2 hs1 bX sX hsw hWs
 obtain ⟨q0, q1, q2, q3, q4⟩ := cells_five y1
 have e4 : (d.k == 4) = true := by rw [hk4.out]; rfl
 go_wp2_with fail
 go_region
 have hgo : ∀ (K : World → Prop), K Ws → K (putA (putA W1 g 0 (.int .i64 kb) (.slice spb slb scb) (.slice kpb klb kcb) (.bool nb) (.bool eb) (.bool gb)) g 6 (.int .i64 ka) (.slice spa sla sca) (.slice kpa kla kca) (.bool na) (.bool ea) (.bool ga)).drew := fun K h => by rw [HWS.out]; exact h
 refine hgo (fun w => Exit.then _ _ Exit.normal _ w) ?_
 clear hgo HWS A0 A1 A2 A3 A4 A5 B0 B1 B2 B3 B4 B5
 have y1' := (HSW.out.blk W.heap.size (by omega)).trans y1
 have y2' := (HSW.out.blk (W.heap.size + 1) (by omega)).trans y2
 have b1' : Below W.heap.size W Ws := b1.trans (HSW.out.below (by omega))
 have z1' : W.heap.size + 2 ≤ Ws.heap.size := by rw [HSW.out.size]; exact z1
 clear y1 y2 q0 q1 q2 q3 q4 hR fr
 obtain ⟨q0, q1, q2, q3, q4⟩ := cells_five y1'
 go_wp2_with fail
 refine hof'.mono ?_
 rintro e W2 ⟨nu, rfl, hb2, hR2⟩
 have hbox := (hb2.block (W.heap.size + 1) (by omega)).trans y2'
 obtain ⟨p0, p1, p2, p3, p4, p5⟩ := cells_six hbox
 have fz : ∀ j, W2.frozen? ⟨W.heap.size + 1, j, none⟩ = false := fun j => by simp [World.frozen?, hbox]
 have s2 := hb2.size
 obtain ⟨r0, r1, r2, r3, r4, r5⟩ := cells_six (putP_box (v0 := .int .i64 d.k) (v1 := .slice d.sp d.sl d.sc) (v2 := .slice (some ⟨g, 0, none⟩) 2 kc) (v3 := .bool nu) (v4 := .bool false) (v5 := .bool false) hbox)
 have bF : Below W.heap.size W (putP W2 (W.heap.size + 1) (.int .i64 d.k) (.slice d.sp d.sl d.sc) (.slice (some ⟨g, 0, none⟩) 2 kc) (.bool nu) (.bool false) (.bool false)) := putP_below (nx b1' hb2) (by omega)
 have FIN := hide (p := ∃ g_ kc_ nu_ W2_, Ending.returned (.agg #[.int .i64 d.k, .slice d.sp d.sl d.sc, .slice (some ⟨g, 0, none⟩) 2 kc, .bool nu, .bool false, .bool false]) = .returned (.agg #[.int .i64 d.k, .slice d.sp d.sl d.sc, .slice (some ⟨g_, 0, none⟩) 2 kc_, .bool nu_, .bool false, .bool false]) ∧ R2 g_ kc_ nu_ W2_ ∧ (∀ i, W.heap.size + 2 ≤ i → (putP W2 (W.heap.size + 1) (.int .i64 d.k) (.slice d.sp d.sl d.sc) (.slice (some ⟨g, 0, none⟩) 2 kc) (.bool nu) (.bool false) (.bool false)).heap[i]? = W2_.heap[i]?) ∧ (putP W2 (W.heap.size + 1) (.int .i64 d.k) (.slice d.sp d.sl d.sc) (.slice (some ⟨g, 0, none⟩) 2 kc) (.bool nu) (.bool false) (.bool false)).heap.size = W2_.heap.size ∧ Below W.heap.size W (putP W2 (W.heap.size + 1) (.int .i64 d.k) (.slice d.sp d.sl d.sc) (.slice (some ⟨g, 0, none⟩) 2 kc) (.bool nu) (.bool false) (.bool false))) ⟨g, kc, nu, W2, rfl, hR2, fun i hi => putP_other (by omega), putP_size _ _ _ _ _ _ _ _, bF⟩
 clear hof' hb2 hR2 hbox bF b1 b1' y1' y2' q0 q1 q2 q3 q4 HSW
 go_wp2
 exact bodyPost_ret (w := putP W2 (W.heap.size + 1) _ _ _ _ _ _) (v := .agg #[.int .i64 d.k, .slice d.sp d.sl d.sc, .slice (some ⟨g, 0, none⟩) 2 kc, .bool nu, .bool false, .bool false]) (by simp [results, Tryz.results67, go_sem, r0, r1, r2, r3, r4, r5]) rfl FIN.out
theorem C6.moved {W W' : World} {b o b' o' : Nat} {k : Int} {sv kv : Value} {nu en go : Bool} (h : C6 W b o k sv kv nu en go) (hc : ∀ j, j < 6 → W'.cell? ⟨b', o' + j, none⟩ = W.cell? ⟨b, o + j, none⟩) : C6 W' b' o' k sv kv nu en go :=
 ⟨(hc 0 (by omega)).trans h.c0, (hc 1 (by omega)).trans h.c1, (hc 2 (by omega)).trans h.c2, (hc 3 (by omega)).trans h.c3, (hc 4 (by omega)).trans h.c4, (hc 5 (by omega)).trans h.c5⟩
theorem PR.moved {w0 W W' : World} {p : Ps} {b o b' o' lo hi : Nat} (h : PR w0 W p b o lo hi) (hc : ∀ j, j < 6 → W'.cell? ⟨b', o' + j, none⟩ = W.cell? ⟨b, o + j, none⟩) (hb : ∀ k, lo ≤ k → k < hi → W'.heap[k]? = W.heap[k]?) : PR w0 W' p b' o' lo hi := by
 cases p with
 | leaf k s nu en go =>
   unfold PR at h ⊢
   obtain ⟨h1, h2, sp, sc, kp, kc, h3, h4⟩ := h
   exact ⟨h1, h2, sp, sc, kp, kc, h3.moved hc, h4⟩
 | one k a nu en go =>
   unfold PR at h ⊢
   obtain ⟨h1, sv, g, kc, h3, h4, h5, h6, h7⟩ := h
   have hg := hb g h4 h5
   obtain ⟨cs, h6⟩ := h6
   exact ⟨h1, sv, g, kc, h3.moved hc, h4, h5, ⟨cs, hg.trans h6⟩, PR.keep h7 (fun j _ => cell_blk hg _) (fun k hk1 hk2 => hb k hk1 (by omega))⟩
 | two k x y nu en go =>
   unfold PR at h ⊢
   obtain ⟨h1, sv, g, kc, l1, h1', l2, h2', h3, h4, h5, h6, h7, h8, h9, h10, h11⟩ := h
   have hg := hb g h4 h5
   obtain ⟨cs, h6⟩ := h6
   exact ⟨h1, sv, g, kc, l1, h1', l2, h2', h3.moved hc, h4, h5, ⟨cs, hg.trans h6⟩, PR.keep h7 (fun j _ => cell_blk hg _) (fun k hk1 hk2 => hb k (by omega) (by omega)), PR.keep h8 (fun j _ => cell_blk hg _) (fun k hk1 hk2 => hb k (by omega) (by omega)), h9, h10, h11⟩
theorem bwd_any : ∀ (t : T), Vp t → HowC 67 (fun t => (rxOf t).rev.ps) t
 | .mk k a s n [], hV => by
   intro w0 W d hT hB
   rw [Vp] at hV
   obtain ⟨hk, hs⟩ := hV
   obtain ⟨rfl, e2, h1, e3, _⟩ := hT.parts8
   refine (bwd_walk d W (by rcases hk with h | h <;> rw [h] <;> rfl) (fun kp kl kc _ => kp = none ∧ kl = 0 ∧ kc = 0) (fun kp kl kc nu _ => kp = none ∧ kl = 0 ∧ kc = 0 ∧ nu = (!(d.k == 1))) ?_ ?_).mono ?_
   · intro X _ _
     rw [show d.kl = 0 from e3]
     refine (parts_none 67 d.kp d.kc X).mono ?_
     rintro e W' ⟨rfl, rfl⟩
     exact ⟨none, 0, 0, rfl, Below.refl _ _, rfl, rfl, rfl⟩
   · rintro kp kl kc W1 ⟨rfl, rfl, rfl⟩
     rcases hk with hk | hk
     · rw [hk]
       refine (partOf_1 d.sp d.sl d.sc W1).mono ?_
       rintro e W' ⟨rfl, hb⟩
       exact ⟨false, rfl, hb, rfl, rfl, rfl, rfl⟩
     · rw [hk]
       refine (partOf_3 d.sp d.sl d.sc W1).mono ?_
       rintro e W' ⟨rfl, hb⟩
       exact ⟨true, rfl, hb, rfl, rfl, rfl, rfl⟩
   · rintro e W' ⟨kp, kl, kc, nu, W2, rfl, ⟨rfl, rfl, rfl, rfl⟩, hblk, hsz, hb⟩
     refine ⟨_, rfl, ⟨d.k, d.sp, d.sl, d.sc, none, 0, 0, _, false, false, rfl, fun V b o c _ => ?_⟩, hb⟩
     show PR w0 V (rxOf (.mk d.k a s n [])).rev.ps b o _ _
     rw [rxOf, Rx.rev]
     rw [e2] at c
     exact pr_leaf hk hs c h1
 | .mk k a s n [x], hV => by
   intro w0 W d hT hB
   rw [Vp] at hV
   obtain ⟨hk, hx⟩ := hV
   have ih := bwd_any x hx
   obtain ⟨rfl, e2, _, e3, hK⟩ := hT.parts8
   refine (bwd_walk d W (by rcases hk with h | h | h <;> rw [h] <;> rfl) (fun kp kl kc W1 => ∃ g h1 lo, kp = some ⟨g, 0, none⟩ ∧ kl = 1 ∧ W.heap.size + 2 ≤ lo ∧ Row W1 g ∧ PR w0 W1 (rxOf x).rev.ps g 0 lo h1 ∧ lo ≤ g ∧ h1 ≤ g) (fun kp kl kc nu W2 => ∃ g h1 lo, kp = some ⟨g, 0, none⟩ ∧ kl = 1 ∧ W.heap.size + 2 ≤ lo ∧ Row W2 g ∧ PR w0 W2 (rxOf x).rev.ps g 0 lo h1 ∧ lo ≤ g ∧ h1 ≤ g ∧ nu = (Rx.one d.k (rxOf x).rev).nul) ?_ ?_).mono ?_
   · intro X hX hXs
     rw [show d.kl = 1 from e3]
     refine (parts_one69 _ x ih w0 X d.kp d.kc hK (hB.trans (hX.mono hB.size))).mono ?_
     rintro e W1 ⟨u, rfl, ho⟩
     obtain ⟨g, cap, h1, rfl, hr, hp, hg1, hg2, hb⟩ := one_end ho
     exact ⟨_, _, _, rfl, hb, g, h1, X.heap.size, rfl, rfl, hXs, hr, hp, hg1, hg2⟩
   · rintro kp kl kc W1 ⟨g, h1, lo, rfl, rfl, q1, hr, hp, q2, q3⟩
     have hn := hp.tell.1
     rw [(Rx.ps_ok _).2.2.2] at hn
     have hl := hr.lt
     have fin : ∀ (W2 : World), Below W1.heap.size W1 W2 → Row W2 g ∧ PR w0 W2 (rxOf x).rev.ps g 0 lo h1 := fun W2 hb => by
       have hg := hb.block g hl
       obtain ⟨cs, hr⟩ := hr
       exact ⟨⟨cs, hg.trans hr⟩, hp.keep (fun j _ => cell_blk hg _) (fun i _ hi => hb.block i (by omega))⟩
     rcases hk with hk | hk | hk
     · rw [hk]
       refine (partOf_6 d.sp d.sl d.sc g kc _ W1 hn).mono ?_
       rintro e W' ⟨rfl, hb⟩
       exact ⟨true, rfl, hb, g, h1, lo, rfl, rfl, q1, (fin _ hb).1, (fin _ hb).2, q2, q3, (nul_one _ (.inl rfl)).symm⟩
     · rw [hk]
       refine (partOf_7 d.sp d.sl d.sc g kc _ W1 hn).mono ?_
       rintro e W' ⟨rfl, hb⟩
       exact ⟨_, rfl, hb, g, h1, lo, rfl, rfl, q1, (fin _ hb).1, (fin _ hb).2, q2, q3, rfl⟩
     · rw [hk]
       refine (partOf_8 d.sp d.sl d.sc g kc _ W1 hn).mono ?_
       rintro e W' ⟨rfl, hb⟩
       exact ⟨true, rfl, hb, g, h1, lo, rfl, rfl, q1, (fin _ hb).1, (fin _ hb).2, q2, q3, (nul_one _ (.inr rfl)).symm⟩
   · rintro e W' ⟨kp, kl, kc, nu, W2, rfl, ⟨g, h1, lo, rfl, rfl, q1, hr, hp, q2, q3, rfl⟩, hblk, hsz, hb⟩
     have hl := hr.lt
     refine ⟨_, rfl, ⟨d.k, d.sp, d.sl, d.sc, some ⟨g, 0, none⟩, 1, kc, _, false, false, rfl, fun V b o c hv => ?_⟩, hb⟩
     show PR w0 V (rxOf (.mk d.k a s n [x])).rev.ps b o _ _
     rw [rxOf, Rx.rev]
     have hs := hb.size
     have hg : V.heap[g]? = W2.heap[g]? := (hv g (by omega) (by omega)).trans (hblk g (by omega))
     have hp' : PR w0 V (rxOf x).rev.ps g 0 lo h1 := hp.keep (fun j _ => cell_blk hg _) (fun i hi1 hi2 => (hv i (by omega) (by omega)).trans (hblk i (by omega)))
     obtain ⟨cs, hr⟩ := hr
     exact pr_one hk c (by omega) (by omega) ⟨cs, hg.trans hr⟩ (hp'.wide (by omega) q3)
 | .mk k a s n [x, y], hV => by
   intro w0 W d hT hB
   rw [Vp] at hV
   obtain ⟨hk, hx, hy⟩ := hV
   have ihx := bwd_any x hx
   have ihy := bwd_any y hy
   obtain ⟨rfl, e2, _, e3, hK⟩ := hT.parts8
   rcases hk with hk | hk
   · replace hk := hide hk
     refine (bwd_cat d W hk (fun g kc W1 => ∃ X : World, W.heap.size + 2 ≤ X.heap.size ∧ Two w0 X (rxOf x).rev.ps (rxOf y).rev.ps (.slice (some ⟨g, 0, none⟩) 2 kc) W1) (fun g kc nu W2 => ∃ X : World, W.heap.size + 2 ≤ X.heap.size ∧ Two w0 X (rxOf y).rev.ps (rxOf x).rev.ps (.slice (some ⟨g, 0, none⟩) 2 kc) W2 ∧ nu = (Rx.two 4 (rxOf y).rev (rxOf x).rev).nul) ?_ ?_).mono ?_
     · intro X hX hXs
       rw [show d.kl = 2 from e3]
       refine (parts_two69 _ x y ihx ihy w0 X d.kp d.kc hK (hB.trans (hX.mono hB.size))).mono ?_
       rintro e W1 ⟨u, rfl, ho⟩
       obtain ⟨g, cap, l1, h1, l2, h2, rfl, hr, hp, hq, i1, i2, i3, i4, i5, hb0, sl1, sl2⟩ := id ho
       obtain ⟨ka, spa, sla, sca, kpa, kla, kca, na, ea, ga, A⟩ := sl1
       obtain ⟨kb, spb, slb, scb, kpb, klb, kcb, nb, eb, gb, B⟩ := sl2
       exact ⟨g, cap, ka, spa, sla, sca, kpa, kla, kca, na, ea, ga, kb, spb, slb, scb, kpb, klb, kcb, nb, eb, gb, rfl, hb0, hr, A, B, by omega, X, hXs, ho⟩
     · rintro g kc W1 Ws ⟨X, hXs, g', cap, l1, h1, l2, h2, e, hr, hp, hq, i1, i2, i3, i4, i5, hb0, sl1, sl2⟩ hsw
       cases e
       have hs0 := hsw.size
       have hq' : PR w0 Ws (rxOf y).rev.ps g 0 l2 h2 := by
         refine hq.moved (fun j hj => ?_) (fun i hi1 hi2 => hsw.blk i (by omega))
         rw [Nat.zero_add]
         exact hsw.x j hj
       have hp' : PR w0 Ws (rxOf x).rev.ps g 6 l1 h1 := by
         refine hp.moved (fun j hj => ?_) (fun i hi1 hi2 => hsw.blk i (by omega))
         rw [Nat.zero_add]
         exact hsw.y j hj
       have hn := hq'.tell.1
       have hm := hp'.tell.1
       rw [(Rx.ps_ok _).2.2.2] at hn hm
       simp only [Nat.zero_add, Nat.reduceAdd] at hn hm
       have s1 : SL Ws g 0 := by
         obtain ⟨k, sp, sl, sc, kp, kl, kc, nu, en, go, h⟩ := sl2
         exact ⟨k, sp, sl, sc, kp, kl, kc, nu, en, go, h.moved (fun j hj => by rw [Nat.zero_add]; exact hsw.x j hj)⟩
       have s2 : SL Ws g 6 := by
         obtain ⟨k, sp, sl, sc, kp, kl, kc, nu, en, go, h⟩ := sl1
         exact ⟨k, sp, sl, sc, kp, kl, kc, nu, en, go, h.moved (fun j hj => by rw [Nat.zero_add]; exact hsw.y j hj)⟩
       have hrow := hsw.row
       have fin : ∀ (W2 : World), Below Ws.heap.size Ws W2 → Two w0 X (rxOf y).rev.ps (rxOf x).rev.ps (.slice (some ⟨g, 0, none⟩) 2 kc) W2 := fun W2 hb => by
         have hg := hb.block g (by omega)
         have hs := hb.size
         have hx0 := hb0.size
         obtain ⟨cs, hr⟩ := hrow
         exact ⟨g, kc, l2, h2, l1, h1, rfl, ⟨cs, hg.trans hr⟩, hq'.keep (fun j _ => cell_blk hg _) (fun i _ hi => hb.block i (by omega)), hp'.keep (fun j _ => cell_blk hg _) (fun i _ hi => hb.block i (by omega)), by omega, by omega, by omega, i4, by omega, (hb0.trans (hsw.below i4)).trans (hb.mono (by omega)), s1.keep hg, s2.keep hg⟩
       rw [hk.out]
       refine (partOf_4 d.sp d.sl d.sc g kc _ _ Ws hn hm).mono ?_
       rintro e W' ⟨rfl, hb⟩
       exact ⟨_, rfl, hb, X, hXs, fin _ hb, rfl⟩
     · rintro e W' ⟨g, kc, nu, W2, rfl, ⟨X, hXs, ⟨g', cap, l1, h1, l2, h2, e, hr, hp, hq, i1, i2, i3, i4, i5, hb0, _, _⟩, rfl⟩, hblk, hsz, hb⟩
       cases e
       refine ⟨_, rfl, ⟨d.k, d.sp, d.sl, d.sc, some ⟨g, 0, none⟩, 2, kc, _, false, false, rfl, fun V b o c hv => ?_⟩, hb⟩
       show PR w0 V (rxOf (.mk d.k a s n [x, y])).rev.ps b o _ _
       rw [rxOf, Rx.rev, if_pos hk.out]
       have hs := hb.size
       have hg : V.heap[g]? = W2.heap[g]? := (hv g (by omega) (by omega)).trans (hblk g (by omega))
       have hblk2 : ∀ i, X.heap.size ≤ i → i < W2.heap.size → V.heap[i]? = W2.heap[i]? := fun i hi1 hi2 => (hv i (by omega) (by omega)).trans (hblk i (by omega))
       obtain ⟨cs, hr⟩ := hr
       rw [hk.out] at c ⊢
       exact pr_two (.inl rfl) c (by omega) (by omega) ⟨cs, hg.trans hr⟩ (hp.keep (fun j _ => cell_blk hg _) (fun i hi1 hi2 => hblk2 i (by omega) (by omega))) (hq.keep (fun j _ => cell_blk hg _) (fun i hi1 hi2 => hblk2 i (by omega) (by omega))) (by omega) (by omega) i3
   · refine (bwd_walk d W (by rw [hk]; rfl) (fun kp kl kc W1 => ∃ X : World, W.heap.size + 2 ≤ X.heap.size ∧ Two w0 X (rxOf x).rev.ps (rxOf y).rev.ps (.slice kp kl kc) W1) (fun kp kl kc nu W2 => ∃ X : World, W.heap.size + 2 ≤ X.heap.size ∧ Two w0 X (rxOf x).rev.ps (rxOf y).rev.ps (.slice kp kl kc) W2 ∧ nu = (Rx.two d.k (rxOf x).rev (rxOf y).rev).nul) ?_ ?_).mono ?_
     · intro X hX hXs
       rw [show d.kl = 2 from e3]
       refine (parts_two69 _ x y ihx ihy w0 X d.kp d.kc hK (hB.trans (hX.mono hB.size))).mono ?_
       rintro e W1 ⟨u, rfl, ho⟩
       obtain ⟨g, cap, l1, h1, l2, h2, rfl, hrest⟩ := id ho
       exact ⟨_, _, _, rfl, hrest.2.2.2.2.2.2.2.2.1, X, hXs, ho⟩
     · rintro kp kl kc W1 ⟨X, hXs, g, cap, l1, h1, l2, h2, e, hr, hp, hq, i1, i2, i3, i4, i5, hb0, sl1, sl2⟩
       cases e
       have hn := hp.tell.1
       have hm := hq.tell.1
       rw [(Rx.ps_ok _).2.2.2] at hn hm
       simp only [Nat.zero_add, Nat.reduceAdd] at hn hm
       have fin : ∀ (W2 : World), Below W1.heap.size W1 W2 → Two w0 X (rxOf x).rev.ps (rxOf y).rev.ps (.slice (some ⟨g, 0, none⟩) 2 kc) W2 := fun W2 hb => by
         have hg := hb.block g i5
         have hs := hb.size
         have hx0 := hb0.size
         obtain ⟨cs, hr⟩ := hr
         exact ⟨g, kc, l1, h1, l2, h2, rfl, ⟨cs, hg.trans hr⟩, hp.keep (fun j _ => cell_blk hg _) (fun i _ hi => hb.block i (by omega)), hq.keep (fun j _ => cell_blk hg _) (fun i _ hi => hb.block i (by omega)), by omega, by omega, i3, i4, by omega, hb0.trans (hb.mono hx0), sl1.keep hg, sl2.keep hg⟩
       rw [hk]
       refine (partOf_5 d.sp d.sl d.sc g kc _ _ W1 hn hm).mono ?_
       rintro e W' ⟨rfl, hb⟩
       exact ⟨_, rfl, hb, X, hXs, fin _ hb, rfl⟩
     · rintro e W' ⟨kp, kl, kc, nu, W2, rfl, ⟨X, hXs, ⟨g, cap, l1, h1, l2, h2, e, hr, hp, hq, i1, i2, i3, i4, i5, hb0, _, _⟩, rfl⟩, hblk, hsz, hb⟩
       cases e
       refine ⟨_, rfl, ⟨d.k, d.sp, d.sl, d.sc, some ⟨g, 0, none⟩, 2, kc, _, false, false, rfl, fun V b o c hv => ?_⟩, hb⟩
       show PR w0 V (rxOf (.mk d.k a s n [x, y])).rev.ps b o _ _
       rw [rxOf, Rx.rev, if_neg (by omega)]
       have hs := hb.size
       have hg : V.heap[g]? = W2.heap[g]? := (hv g (by omega) (by omega)).trans (hblk g (by omega))
       have hblk2 : ∀ i, X.heap.size ≤ i → i < W2.heap.size → V.heap[i]? = W2.heap[i]? := fun i hi1 hi2 => (hv i (by omega) (by omega)).trans (hblk i (by omega))
       obtain ⟨cs, hr⟩ := hr
       exact pr_two (.inr hk) c (by omega) (by omega) ⟨cs, hg.trans hr⟩ (hp.keep (fun j _ => cell_blk hg _) (fun i hi1 hi2 => hblk2 i (by omega) (by omega))) (hq.keep (fun j _ => cell_blk hg _) (fun i hi1 hi2 => hblk2 i (by omega) (by omega))) (by omega) (by omega) i3
 | .mk k a s n (x :: y :: z :: ks), hV => by rw [Vp] at hV; exact hV.elim
end Go.Proofs.YtemanednddhfaaaGreatDoor
