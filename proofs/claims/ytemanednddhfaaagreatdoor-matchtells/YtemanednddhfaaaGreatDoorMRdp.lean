/- Joined: Rdp. -/
import Derived.Test.YtemanednddhfaaaGreatDoorMRk0
namespace Go.Proofs.YtemanednddhfaaaGreatDoor
open Go.RowKit
open E (Ps Rx)
attribute [local go_sem] Oper.semAt_some
set_option maxRecDepth 100000 in
set_option maxHeartbeats 2000000 in
theorem read_set1 (w0 W : World) (b o lo hi : Nat) (r : Int) (s : List (Int × Int)) (nu en go : Bool) (h : PR w0 W (.leaf 1 s nu en go) b o lo hi) (hr : Row W b) (_hbo : b < lo ∨ hi ≤ b) (_hhi : hi ≤ W.heap.size) (hB : Below w0.heap.size w0 W) (_hlo : w0.heap.size ≤ lo) (_hwb : w0.heap.size ≤ b) :
   Calls Tryz.prog 93 #[.pointer (some ⟨b, o, none⟩), .int .i32 r, .bool true] W (AnsRp w0 W (.leaf 1 s nu en go) b o lo hi r true) := by
 unfold PR at h
 obtain ⟨_, h2, sp, sc, kp, kc, h3, h4⟩ := h
 have c0 := h3.c0
 have c1 := h3.c1
 have c4 := h3.c4
 have c5 := h3.c5
 have f4 := hr.frz (o + 4)
 have hb := hr.lt
 have hhas := U.has_any sp sc s r h2 W (h4.later hB)
 go_enter Tryz.func93, Tryz.ntmps93
 go_wp2_with fail
 refine hhas.mono ?_
 rintro e W1 ⟨rfl, hb1⟩
 have kr1 := Kr.of (b := b) (o := o) (lo := lo) (hi := hi) hb1 hb
 have c6 := h3.keep (W' := W1) (fun j _ => cell_blk (hb1.block b hb) _)
 have hr1 := kr1.row b hr
 have k4 := c6.c4
 have k5 := c6.c5
 have kf := hr1.frz (o + 4)
 have HRD : Hid ((Ps.leaf 1 s nu en go).read r true = .leaf 1 s nu (E.inS s r) (E.inS s r)) := hide (by simp [Ps.read])
 have HIN : Hid (E.inS s r = _) := hide (inS_eq s r)
 generalize hq : E.inS s r = en1 at HRD HIN
 rw [← HIN.out]
 have T1 := (Top.refl k4 k5).set4 en1
 clear hhas c0 c1 c4 c5 f4 hq HIN
 have T2 := T1.set5 en1
 have z4 := T1.c4
 have z5 := T1.c5
 have z2 := (T1.c6 c6).c2
 have zf := (T1.row b hr1).frz (o + 5)
 have y5 := T2.c5
 have y2 := (T2.c6 c6).c2
 have yf := (T2.row b hr1).frz (o + 5)
 have FIN : Hid (AnsRp w0 W (.leaf 1 s nu en go) b o lo hi r true (.returned (.tuple #[])) ((W1.setCell ⟨b, o + 4, none⟩ (.bool en1)).setCell ⟨b, o + 5, none⟩ (.bool en1))) := hide (p := AnsRp w0 W (.leaf 1 s nu en go) b o lo hi r true (.returned (.tuple #[])) ((W1.setCell ⟨b, o + 4, none⟩ (.bool en1)).setCell ⟨b, o + 5, none⟩ (.bool en1))) ⟨rfl, by rw [HRD.out]; exact pr_leaf (.inl rfl) h2 (T2.c6 c6) h4, kr1.trans T2.kr⟩
 clear T1 T2 c6
 go_wp2
 go_loopw [139] (fun u wr => u = .int .i64 0 ∧ wr = ((W1.setCell ⟨b, o + 4, none⟩ (.bool en1)).setCell ⟨b, o + 5, none⟩ (.bool en1))) (fun _ _ => 0)
 case atStart => exact ⟨rfl, rfl⟩
 case round =>
   obtain ⟨rfl, rfl⟩ := hrel
   go_wp2
   go_end0
   exact FIN.out
set_option maxRecDepth 100000 in
set_option maxHeartbeats 2000000 in
theorem read_set2 (w0 W : World) (b o lo hi : Nat) (r : Int) (s : List (Int × Int)) (nu en : Bool) (h : PR w0 W (.leaf 1 s nu en true) b o lo hi) (hr : Row W b) (_hbo : b < lo ∨ hi ≤ b) (_hhi : hi ≤ W.heap.size) (_hB : Below w0.heap.size w0 W) (_hlo : w0.heap.size ≤ lo) (_hwb : w0.heap.size ≤ b) :
   Calls Tryz.prog 93 #[.pointer (some ⟨b, o, none⟩), .int .i32 r, .bool false] W (AnsRp w0 W (.leaf 1 s nu en true) b o lo hi r false) := by
 unfold PR at h
 obtain ⟨_, h2, sp, sc, kp, kc, h3, h4⟩ := h
 have c0 := h3.c0
 have c1 := h3.c1
 have c4 := h3.c4
 have c5 := h3.c5
 have f4 := hr.frz (o + 4)
 have hb := hr.lt
 have HRD : Hid ((Ps.leaf 1 s nu en true).read r false = .leaf 1 s nu false false) := hide (by simp [Ps.read])
 have c6 := h3
 have hr1 := hr
 have T1 := (Top.refl c4 c5).set4 false
 go_enter Tryz.func93, Tryz.ntmps93
 have T2 := T1.set5 false
 have z4 := T1.c4
 have z5 := T1.c5
 have z2 := (T1.c6 c6).c2
 have zf := (T1.row b hr1).frz (o + 5)
 have y5 := T2.c5
 have y2 := (T2.c6 c6).c2
 have yf := (T2.row b hr1).frz (o + 5)
 have FIN : Hid (AnsRp w0 W (.leaf 1 s nu en true) b o lo hi r false (.returned (.tuple #[])) ((W.setCell ⟨b, o + 4, none⟩ (.bool false)).setCell ⟨b, o + 5, none⟩ (.bool false))) := hide (p := AnsRp w0 W (.leaf 1 s nu en true) b o lo hi r false (.returned (.tuple #[])) ((W.setCell ⟨b, o + 4, none⟩ (.bool false)).setCell ⟨b, o + 5, none⟩ (.bool false))) ⟨rfl, by rw [HRD.out]; exact pr_leaf (.inl rfl) h2 (T2.c6 c6) h4, T2.kr⟩
 clear T1 T2 c6
 go_wp2
 go_loopw [139] (fun u wr => u = .int .i64 0 ∧ wr = ((W.setCell ⟨b, o + 4, none⟩ (.bool false)).setCell ⟨b, o + 5, none⟩ (.bool false))) (fun _ _ => 0)
 case atStart => exact ⟨rfl, rfl⟩
 case round =>
   obtain ⟨rfl, rfl⟩ := hrel
   go_wp2
   go_end0
   exact FIN.out
set_option maxRecDepth 100000 in
set_option maxHeartbeats 2000000 in
theorem read_none (w0 W : World) (b o lo hi : Nat) (r : Int) (bg : Bool) (s : List (Int × Int)) (nu en go : Bool) (h : PR w0 W (.leaf 3 s nu en go) b o lo hi) (hc : (!bg && !go) = false) (hr : Row W b) (_hbo : b < lo ∨ hi ≤ b) (_hhi : hi ≤ W.heap.size) (_hB : Below w0.heap.size w0 W) (_hlo : w0.heap.size ≤ lo) (_hwb : w0.heap.size ≤ b) :
   Calls Tryz.prog 93 #[.pointer (some ⟨b, o, none⟩), .int .i32 r, .bool bg] W (AnsRp w0 W (.leaf 3 s nu en go) b o lo hi r bg) := by
 unfold PR at h
 obtain ⟨_, h2, sp, sc, kp, kc, h3, h4⟩ := h
 have c0 := h3.c0
 have c1 := h3.c1
 have c4 := h3.c4
 have c5 := h3.c5
 have f4 := hr.frz (o + 4)
 have hb := hr.lt
 have HRD : Hid ((Ps.leaf 3 s nu en go).read r bg = .leaf 3 s nu en en) := hide (by simp [Ps.read, hc])
 have c6 := h3
 have hr1 := hr
 have T1 := Top.refl c4 c5
 go_enter Tryz.func93, Tryz.ntmps93
 cases bg with
 | true =>
   have T2 := T1.set5 en
   have z4 := T1.c4
   have z5 := T1.c5
   have z2 := (T1.c6 c6).c2
   have zf := (T1.row b hr1).frz (o + 5)
   have y5 := T2.c5
   have y2 := (T2.c6 c6).c2
   have yf := (T2.row b hr1).frz (o + 5)
   have FIN : Hid (AnsRp w0 W (.leaf 3 s nu en go) b o lo hi r true (.returned (.tuple #[])) (W.setCell ⟨b, o + 5, none⟩ (.bool en))) := hide (p := AnsRp w0 W (.leaf 3 s nu en go) b o lo hi r true (.returned (.tuple #[])) (W.setCell ⟨b, o + 5, none⟩ (.bool en))) ⟨rfl, by rw [HRD.out]; exact pr_leaf (.inr rfl) h2 (T2.c6 c6) h4, T2.kr⟩
   clear T1 T2 c6
   go_wp2
   go_loopw [139] (fun u wr => u = .int .i64 0 ∧ wr = (W.setCell ⟨b, o + 5, none⟩ (.bool en))) (fun _ _ => 0)
   case atStart => exact ⟨rfl, rfl⟩
   case round =>
     obtain ⟨rfl, rfl⟩ := hrel
     go_wp2
     go_end0
     exact FIN.out
 | false =>
   obtain rfl : go = true := by simpa using hc
   have T2 := T1.set5 en
   have z4 := T1.c4
   have z5 := T1.c5
   have z2 := (T1.c6 c6).c2
   have zf := (T1.row b hr1).frz (o + 5)
   have y5 := T2.c5
   have y2 := (T2.c6 c6).c2
   have yf := (T2.row b hr1).frz (o + 5)
   have FIN : Hid (AnsRp w0 W (.leaf 3 s nu en true) b o lo hi r false (.returned (.tuple #[])) (W.setCell ⟨b, o + 5, none⟩ (.bool en))) := hide (p := AnsRp w0 W (.leaf 3 s nu en true) b o lo hi r false (.returned (.tuple #[])) (W.setCell ⟨b, o + 5, none⟩ (.bool en))) ⟨rfl, by rw [HRD.out]; exact pr_leaf (.inr rfl) h2 (T2.c6 c6) h4, T2.kr⟩
   clear T1 T2 c6
   go_wp2
   go_loopw [139] (fun u wr => u = .int .i64 0 ∧ wr = (W.setCell ⟨b, o + 5, none⟩ (.bool en))) (fun _ _ => 0)
   case atStart => exact ⟨rfl, rfl⟩
   case round =>
     obtain ⟨rfl, rfl⟩ := hrel
     go_wp2
     go_end0
     exact FIN.out
def RdC (p : Ps) : Prop := ∀ (w0 W : World) (b o lo hi : Nat) (r : Int) (bg : Bool), PR w0 W p b o lo hi → Row W b → (b < lo ∨ hi ≤ b) → hi ≤ W.heap.size → Below w0.heap.size w0 W → w0.heap.size ≤ lo → w0.heap.size ≤ b → Calls Tryz.prog 93 #[.pointer (some ⟨b, o, none⟩), .int .i32 r, .bool bg] W (AnsRp w0 W p b o lo hi r bg)
set_option maxRecDepth 100000 in
set_option maxHeartbeats 2000000 in
theorem read_one8 (w0 W : World) (b o lo hi : Nat) (r : Int) (bg : Bool) (a : Ps) (nu en go : Bool) (ih : RdC a) (h : PR w0 W (.one 8 a nu en go) b o lo hi) (hc : (!bg && !go) = false) (hr : Row W b) (hbo : b < lo ∨ hi ≤ b) (_hhi : hi ≤ W.heap.size) (hB : Below w0.heap.size w0 W) (hlo : w0.heap.size ≤ lo) (_hwb : w0.heap.size ≤ b) :
   Calls Tryz.prog 93 #[.pointer (some ⟨b, o, none⟩), .int .i32 r, .bool bg] W (AnsRp w0 W (.one 8 a nu en go) b o lo hi r bg) := by
 unfold PR at h
 obtain ⟨_, sv, g, kc, h3, hg1, hg2, hrg, ha⟩ := h
 have c0 := h3.c0
 have c2 := h3.c2
 have c4 := h3.c4
 have c5 := h3.c5
 have hb := hr.lt
 have hgb : g ≠ b := by omega
 have es := elemSize145
 have hcall := fun f => ih w0 W g 0 lo g r f ha hrg (.inr (Nat.le_refl g)) (Nat.le_of_lt hrg.lt) hB hlo (by omega)
 go_enter Tryz.func93, Tryz.ntmps93
 cases bg with
 | true =>
   replace hcall := hcall true
   go_wp2_with fail
   refine hcall.mono ?_
   rintro e W1 ⟨rfl, hpa, hka⟩
   have kr1 := hka.up (b := b) (o := o) (lo := lo) (hi := hi) ⟨hg1, hg2⟩ (Nat.le_refl _) (Nat.le_of_lt hg2) hbo hb
   have c6 := h3.keep (W' := W1) (fun j _ => cell_blk (hka.blk b hb (fun e => hgb e.symm) (by omega)) _)
   have hr1 := kr1.row b hr
   have hrg1 := hka.row g hrg
   have k2 := c6.c2
   have k4 := c6.c4
   have k5 := c6.c5
   have kf := hr1.frz (o + 4)
   have HRD : Hid ((Ps.one 8 a nu en go).read r true = .one 8 (a.read r true) nu (a.read r true).en ((a.read r true).en || (a.read r true).go)) := hide (by simp [Ps.read])
   obtain ⟨_, ke, ka⟩ := hpa.tell
   simp only [Nat.zero_add] at ke ka
   have HPA := hide hpa
   clear hpa hcall c0 c2 c4 c5 hka ih ha h3
   generalize (a.read r true).en = en1 at HRD ke
   generalize (a.read r true).go = ga at HRD ka
   have T1 := (Top.refl k4 k5).set4 en1
   have T2 := T1.set5 en1
   have z4 := T1.c4
   have z5 := T1.c5
   have z2 := (T1.c6 c6).c2
   have zf := (T1.row b hr1).frz (o + 5)
   have y5 := T2.c5
   have y2 := (T2.c6 c6).c2
   have yf := (T2.row b hr1).frz (o + 5)
   have yk := (cell_blk (T2.blk g hgb) 5).trans ka
   obtain ⟨e1, HE1⟩ : ∃ e1, Hid ((en1 || ga) = e1) := ⟨_, hide rfl⟩
   have T3 := T2.set5 e1
   have x5 := T3.c5
   have x2 := (T3.c6 c6).c2
   have xf := (T3.row b hr1).frz (o + 5)
   have FIN : Hid (AnsRp w0 W (.one 8 a nu en go) b o lo hi r true (.returned (.tuple #[])) (((W1.setCell ⟨b, o + 4, none⟩ (.bool en1)).setCell ⟨b, o + 5, none⟩ (.bool en1)).setCell ⟨b, o + 5, none⟩ (.bool e1))) := hide (p := AnsRp w0 W (.one 8 a nu en go) b o lo hi r true (.returned (.tuple #[])) (((W1.setCell ⟨b, o + 4, none⟩ (.bool en1)).setCell ⟨b, o + 5, none⟩ (.bool en1)).setCell ⟨b, o + 5, none⟩ (.bool e1))) ⟨rfl, by rw [HRD.out]; exact pr_one (by omega) (by first | (rw [HE1.out]; exact T3.c6 c6) | exact T3.c6 c6) hg1 hg2 (T3.row g hrg1) (T3.kid HPA.out hbo ⟨hg1, hg2⟩ (Nat.le_refl _) (Nat.le_of_lt hg2)), kr1.trans T3.kr⟩
   clear T1 T2 c6 T3
   go_wp2
   go_loopw [139] (fun u wr => (u = .int .i64 0 ∧ wr = ((W1.setCell ⟨b, o + 4, none⟩ (.bool en1)).setCell ⟨b, o + 5, none⟩ (.bool en1))) ∨ (u = .int .i64 1 ∧ wr = (((W1.setCell ⟨b, o + 4, none⟩ (.bool en1)).setCell ⟨b, o + 5, none⟩ (.bool en1)).setCell ⟨b, o + 5, none⟩ (.bool e1)))) (fun u _ => 1 - (intOf u).toNat)
   case atStart => exact .inl ⟨rfl, rfl⟩
   case round =>
     rcases hrel with ⟨rfl, rfl⟩ | ⟨rfl, rfl⟩
     · clear FIN
       cases en1 with
       | true =>
         go_wp2
         go_roundw
         case rel => exact .inr ⟨rfl, by rw [← HE1.out]; rfl⟩
         case measure => simp [intOf]
       | false =>
         go_wp2
         go_roundw
         case rel => exact .inr ⟨rfl, by rw [← HE1.out]; rfl⟩
         case measure => simp [intOf]
     · go_wp2
       go_end0
       exact FIN.out
 | false =>
   obtain rfl : go = true := by simpa using hc
   replace hcall := hcall false
   go_wp2_with fail
   refine hcall.mono ?_
   rintro e W1 ⟨rfl, hpa, hka⟩
   have kr1 := hka.up (b := b) (o := o) (lo := lo) (hi := hi) ⟨hg1, hg2⟩ (Nat.le_refl _) (Nat.le_of_lt hg2) hbo hb
   have c6 := h3.keep (W' := W1) (fun j _ => cell_blk (hka.blk b hb (fun e => hgb e.symm) (by omega)) _)
   have hr1 := kr1.row b hr
   have hrg1 := hka.row g hrg
   have k2 := c6.c2
   have k4 := c6.c4
   have k5 := c6.c5
   have kf := hr1.frz (o + 4)
   have HRD : Hid ((Ps.one 8 a nu en true).read r false = .one 8 (a.read r false) nu (a.read r false).en ((a.read r false).en || (a.read r false).go)) := hide (by simp [Ps.read])
   obtain ⟨_, ke, ka⟩ := hpa.tell
   simp only [Nat.zero_add] at ke ka
   have HPA := hide hpa
   clear hpa hcall c0 c2 c4 c5 hka ih ha h3
   generalize (a.read r false).en = en1 at HRD ke
   generalize (a.read r false).go = ga at HRD ka
   have T1 := (Top.refl k4 k5).set4 en1
   have T2 := T1.set5 en1
   have z4 := T1.c4
   have z5 := T1.c5
   have z2 := (T1.c6 c6).c2
   have zf := (T1.row b hr1).frz (o + 5)
   have y5 := T2.c5
   have y2 := (T2.c6 c6).c2
   have yf := (T2.row b hr1).frz (o + 5)
   have yk := (cell_blk (T2.blk g hgb) 5).trans ka
   obtain ⟨e1, HE1⟩ : ∃ e1, Hid ((en1 || ga) = e1) := ⟨_, hide rfl⟩
   have T3 := T2.set5 e1
   have x5 := T3.c5
   have x2 := (T3.c6 c6).c2
   have xf := (T3.row b hr1).frz (o + 5)
   have FIN : Hid (AnsRp w0 W (.one 8 a nu en true) b o lo hi r false (.returned (.tuple #[])) (((W1.setCell ⟨b, o + 4, none⟩ (.bool en1)).setCell ⟨b, o + 5, none⟩ (.bool en1)).setCell ⟨b, o + 5, none⟩ (.bool e1))) := hide (p := AnsRp w0 W (.one 8 a nu en true) b o lo hi r false (.returned (.tuple #[])) (((W1.setCell ⟨b, o + 4, none⟩ (.bool en1)).setCell ⟨b, o + 5, none⟩ (.bool en1)).setCell ⟨b, o + 5, none⟩ (.bool e1))) ⟨rfl, by rw [HRD.out]; exact pr_one (by omega) (by first | (rw [HE1.out]; exact T3.c6 c6) | exact T3.c6 c6) hg1 hg2 (T3.row g hrg1) (T3.kid HPA.out hbo ⟨hg1, hg2⟩ (Nat.le_refl _) (Nat.le_of_lt hg2)), kr1.trans T3.kr⟩
   clear T1 T2 c6 T3
   go_wp2
   go_loopw [139] (fun u wr => (u = .int .i64 0 ∧ wr = ((W1.setCell ⟨b, o + 4, none⟩ (.bool en1)).setCell ⟨b, o + 5, none⟩ (.bool en1))) ∨ (u = .int .i64 1 ∧ wr = (((W1.setCell ⟨b, o + 4, none⟩ (.bool en1)).setCell ⟨b, o + 5, none⟩ (.bool en1)).setCell ⟨b, o + 5, none⟩ (.bool e1)))) (fun u _ => 1 - (intOf u).toNat)
   case atStart => exact .inl ⟨rfl, rfl⟩
   case round =>
     rcases hrel with ⟨rfl, rfl⟩ | ⟨rfl, rfl⟩
     · clear FIN
       cases en1 with
       | true =>
         go_wp2
         go_roundw
         case rel => exact .inr ⟨rfl, by rw [← HE1.out]; rfl⟩
         case measure => simp [intOf]
       | false =>
         go_wp2
         go_roundw
         case rel => exact .inr ⟨rfl, by rw [← HE1.out]; rfl⟩
         case measure => simp [intOf]
     · go_wp2
       go_end0
       exact FIN.out
set_option maxRecDepth 100000 in
set_option maxHeartbeats 2000000 in
theorem read_one6 (w0 W : World) (b o lo hi : Nat) (r : Int) (bg : Bool) (a : Ps) (nu en go : Bool) (ih : RdC a) (h : PR w0 W (.one 6 a nu en go) b o lo hi) (hc : (!bg && !go) = false) (hr : Row W b) (hbo : b < lo ∨ hi ≤ b) (_hhi : hi ≤ W.heap.size) (hB : Below w0.heap.size w0 W) (hlo : w0.heap.size ≤ lo) (_hwb : w0.heap.size ≤ b) :
   Calls Tryz.prog 93 #[.pointer (some ⟨b, o, none⟩), .int .i32 r, .bool bg] W (AnsRp w0 W (.one 6 a nu en go) b o lo hi r bg) := by
 unfold PR at h
 obtain ⟨_, sv, g, kc, h3, hg1, hg2, hrg, ha⟩ := h
 have c0 := h3.c0
 have c2 := h3.c2
 have c4 := h3.c4
 have c5 := h3.c5
 have hb := hr.lt
 have hgb : g ≠ b := by omega
 have es := elemSize145
 have kaen := ha.tell.2.1
 have hcall : ∀ f, Calls Tryz.prog 93 #[.pointer (some ⟨g, 0, none⟩), .int .i32 r, .bool f] W.drew (AnsRp w0 W.drew a g 0 lo g r f) := fun f => ih w0 W.drew g 0 lo g r f (ha.keep (fun _ _ => rfl) (fun _ _ _ => rfl)) hrg (.inr (Nat.le_refl g)) (Nat.le_of_lt hrg.lt) hB.drew hlo (by omega)
 go_enter Tryz.func93, Tryz.ntmps93
 cases bg with
 | true =>
   replace hcall := hcall true
   go_wp2_with fail
   refine Rcl.start 16 (fun w' => w' = W.drew) (by kernel_rfl) ?_
   refine Rcl.take (fun _ _ _ _ _ h => h) 0 _ 80 (.pointer (some ⟨b, o, none⟩)) rfl (by kernel_rfl) rfl (by kernel_rfl) (by kernel_rfl) rfl (fun w' hw => Rcl.mv rfl rfl) ?_
   refine Rcl.take (fun _ _ _ _ _ h => h) 1 _ 81 (.pointer (some ⟨b, o, none⟩)) rfl (by kernel_rfl) rfl (by kernel_rfl) (by kernel_rfl) rfl (fun w' hw => Rcl.nc rfl rfl) ?_
   refine Rcl.take (fun _ _ _ _ _ h => h) 2 _ 82 (.pointer (some ⟨b, o + 2, none⟩)) rfl (by kernel_rfl) rfl (by kernel_rfl) (by kernel_rfl) rfl (fun w' hw => Rcl.faP rfl rfl (.inl rfl)) ?_
   refine Rcl.take (fun _ _ _ _ _ h => h) 3 _ 83 (.slice (some ⟨g, 0, none⟩) 1 kc) rfl (by kernel_rfl) rfl (by kernel_rfl) (by kernel_rfl) rfl (fun w' hw => by subst hw; exact Rcl.ld1 rfl rfl c2 (Tryz.isAgg145 _)) ?_
   refine Rcl.take (fun _ _ _ _ _ h => h) 4 _ 84 (.pointer (some ⟨g, 0 + 0 * 6, none⟩)) rfl (by kernel_rfl) rfl (by kernel_rfl) (by kernel_rfl) rfl (fun w' hw => Rcl.ix (k := 0) rfl rfl rfl (by omega) Tryz.underlying145 (elemSize145 _)) ?_
   refine Rcl.take (fun _ _ _ _ _ h => h) 5 _ 85 (.int .i32 r) rfl (by kernel_rfl) rfl (by kernel_rfl) (by kernel_rfl) rfl (fun w' hw => Rcl.mv rfl rfl) ?_
   refine Rcl.take (fun _ _ _ _ _ h => h) 6 _ 86 (.bool true) rfl (by kernel_rfl) rfl (by kernel_rfl) (by kernel_rfl) rfl (fun w' hw => Rcl.mv rfl rfl) ?_
   refine Rcl.take (fun _ _ _ _ _ h => h) 7 _ 87 (.bool true) rfl (by kernel_rfl) rfl (by kernel_rfl) (by kernel_rfl) rfl (fun w' hw => Rcl.mv rfl rfl) ?_
   refine Rcl.skip (fun _ _ _ _ _ h => h) 8 _ 88 rfl (by kernel_rfl) rfl (by kernel_rfl) (by kernel_rfl) rfl ?_
   refine Rcl.skip (fun _ _ _ _ _ h => h) 9 _ 89 rfl (by kernel_rfl) rfl (by kernel_rfl) (by kernel_rfl) rfl ?_
   refine Rcl.skip (fun _ _ _ _ _ h => h) 10 _ 90 rfl (by kernel_rfl) rfl (by kernel_rfl) (by kernel_rfl) rfl ?_
   refine Rcl.skip (fun _ _ _ _ _ h => h) 11 _ 91 rfl (by kernel_rfl) rfl (by kernel_rfl) (by kernel_rfl) rfl ?_
   refine Rcl.skip (fun _ _ _ _ _ h => h) 12 _ 92 rfl (by kernel_rfl) rfl (by kernel_rfl) (by kernel_rfl) rfl ?_
   refine Rcl.skip (fun _ _ _ _ _ h => h) 13 _ 93 rfl (by kernel_rfl) rfl (by kernel_rfl) (by kernel_rfl) rfl ?_
   refine Rcl.skip (fun _ _ _ _ _ h => h) 14 _ 94 rfl (by kernel_rfl) rfl (by kernel_rfl) (by kernel_rfl) rfl ?_
   refine Rcl.take (fun _ _ _ _ _ h => h) 15 _ 95 (.bool true) rfl (by kernel_rfl) rfl (by kernel_rfl) (by kernel_rfl) rfl (fun w' hw => Rcl.pk (b := true) rfl rfl rfl) ?_
   refine Rcl.call _ 96 93 _ _ #[.pointer (some ⟨g, 0, none⟩), .int .i32 r, .bool true] rfl (by kernel_rfl) rfl (by kernel_rfl) (by kernel_rfl) rfl (by kernel_rfl) (by kernel_rfl) hcall ?_
   rintro e W1 ⟨rfl, hpa, hka⟩
   refine ⟨_, rfl, Rcl.done (by kernel_rfl) ?_⟩
   replace hka : Kr g 0 lo g W W1 := ⟨hka.os, hka.tape, hka.output, hka.size, hka.blk, hka.cell, hka.row⟩
   have kr1 := hka.up (b := b) (o := o) (lo := lo) (hi := hi) ⟨hg1, hg2⟩ (Nat.le_refl _) (Nat.le_of_lt hg2) hbo hb
   have c6 := h3.keep (W' := W1) (fun j _ => cell_blk (hka.blk b hb (fun e => hgb e.symm) (by omega)) _)
   have hr1 := kr1.row b hr
   have hrg1 := hka.row g hrg
   have k2 := c6.c2
   have k4 := c6.c4
   have k5 := c6.c5
   have kf := hr1.frz (o + 4)
   have HRD : Hid ((Ps.one 6 a nu en go).read r true = .one 6 (a.read r true) nu (a.read r true).en ((a.read r true).en || (a.read r true).go)) := hide (by simp [Ps.read])
   obtain ⟨_, ke, ka⟩ := hpa.tell
   simp only [Nat.zero_add] at ke ka
   have HPA := hide hpa
   clear hpa hcall c0 c2 c4 c5 hka ih ha h3
   generalize (a.read r true).en = en1 at HRD ke
   generalize (a.read r true).go = ga at HRD ka
   have T1 := (Top.refl k4 k5).set4 en1
   simp only [Reg.ov, Act.put, List.setIfInBounds_toArray, List.set_cons_succ, List.set_cons_zero]
   have T2 := T1.set5 en1
   have z4 := T1.c4
   have z5 := T1.c5
   have z2 := (T1.c6 c6).c2
   have zf := (T1.row b hr1).frz (o + 5)
   have y5 := T2.c5
   have y2 := (T2.c6 c6).c2
   have yf := (T2.row b hr1).frz (o + 5)
   have yk := (cell_blk (T2.blk g hgb) 5).trans ka
   obtain ⟨e1, HE1⟩ : ∃ e1, Hid ((en1 || ga) = e1) := ⟨_, hide rfl⟩
   have T3 := T2.set5 e1
   have x5 := T3.c5
   have x2 := (T3.c6 c6).c2
   have xf := (T3.row b hr1).frz (o + 5)
   have FIN : Hid (AnsRp w0 W (.one 6 a nu en go) b o lo hi r true (.returned (.tuple #[])) (((W1.setCell ⟨b, o + 4, none⟩ (.bool en1)).setCell ⟨b, o + 5, none⟩ (.bool en1)).setCell ⟨b, o + 5, none⟩ (.bool e1))) := hide (p := AnsRp w0 W (.one 6 a nu en go) b o lo hi r true (.returned (.tuple #[])) (((W1.setCell ⟨b, o + 4, none⟩ (.bool en1)).setCell ⟨b, o + 5, none⟩ (.bool en1)).setCell ⟨b, o + 5, none⟩ (.bool e1))) ⟨rfl, by rw [HRD.out]; exact pr_one (by omega) (by first | (rw [HE1.out]; exact T3.c6 c6) | exact T3.c6 c6) hg1 hg2 (T3.row g hrg1) (T3.kid HPA.out hbo ⟨hg1, hg2⟩ (Nat.le_refl _) (Nat.le_of_lt hg2)), kr1.trans T3.kr⟩
   clear T1 T2 c6 T3
   go_wp2
   go_loopw [139] (fun u wr => (u = .int .i64 0 ∧ wr = ((W1.setCell ⟨b, o + 4, none⟩ (.bool en1)).setCell ⟨b, o + 5, none⟩ (.bool en1))) ∨ (u = .int .i64 1 ∧ wr = (((W1.setCell ⟨b, o + 4, none⟩ (.bool en1)).setCell ⟨b, o + 5, none⟩ (.bool en1)).setCell ⟨b, o + 5, none⟩ (.bool e1)))) (fun u _ => 1 - (intOf u).toNat)
   case atStart => exact .inl ⟨rfl, rfl⟩
   case round =>
     rcases hrel with ⟨rfl, rfl⟩ | ⟨rfl, rfl⟩
     · clear FIN
       cases en1 with
       | true =>
         go_wp2
         go_roundw
         case rel => exact .inr ⟨rfl, by rw [← HE1.out]; rfl⟩
         case measure => simp [intOf]
       | false =>
         go_wp2
         go_roundw
         case rel => exact .inr ⟨rfl, by rw [← HE1.out]; rfl⟩
         case measure => simp [intOf]
     · go_wp2
       go_end0
       exact FIN.out
 | false =>
   obtain rfl : go = true := by simpa using hc
   replace hcall := hcall a.en
   go_wp2_with fail
   refine Rcl.start 16 (fun w' => w' = W.drew) (by kernel_rfl) ?_
   refine Rcl.take (fun _ _ _ _ _ h => h) 0 _ 80 (.pointer (some ⟨b, o, none⟩)) rfl (by kernel_rfl) rfl (by kernel_rfl) (by kernel_rfl) rfl (fun w' hw => Rcl.mv rfl rfl) ?_
   refine Rcl.take (fun _ _ _ _ _ h => h) 1 _ 81 (.pointer (some ⟨b, o, none⟩)) rfl (by kernel_rfl) rfl (by kernel_rfl) (by kernel_rfl) rfl (fun w' hw => Rcl.nc rfl rfl) ?_
   refine Rcl.take (fun _ _ _ _ _ h => h) 2 _ 82 (.pointer (some ⟨b, o + 2, none⟩)) rfl (by kernel_rfl) rfl (by kernel_rfl) (by kernel_rfl) rfl (fun w' hw => Rcl.faP rfl rfl (.inl rfl)) ?_
   refine Rcl.take (fun _ _ _ _ _ h => h) 3 _ 83 (.slice (some ⟨g, 0, none⟩) 1 kc) rfl (by kernel_rfl) rfl (by kernel_rfl) (by kernel_rfl) rfl (fun w' hw => by subst hw; exact Rcl.ld1 rfl rfl c2 (Tryz.isAgg145 _)) ?_
   refine Rcl.take (fun _ _ _ _ _ h => h) 4 _ 84 (.pointer (some ⟨g, 0 + 0 * 6, none⟩)) rfl (by kernel_rfl) rfl (by kernel_rfl) (by kernel_rfl) rfl (fun w' hw => Rcl.ix (k := 0) rfl rfl rfl (by omega) Tryz.underlying145 (elemSize145 _)) ?_
   refine Rcl.take (fun _ _ _ _ _ h => h) 5 _ 85 (.int .i32 r) rfl (by kernel_rfl) rfl (by kernel_rfl) (by kernel_rfl) rfl (fun w' hw => Rcl.mv rfl rfl) ?_
   refine Rcl.take (fun _ _ _ _ _ h => h) 6 _ 86 (.bool false) rfl (by kernel_rfl) rfl (by kernel_rfl) (by kernel_rfl) rfl (fun w' hw => Rcl.mv rfl rfl) ?_
   refine Rcl.take (fun _ _ _ _ _ h => h) 7 _ 87 (.bool false) rfl (by kernel_rfl) rfl (by kernel_rfl) (by kernel_rfl) rfl (fun w' hw => Rcl.mv rfl rfl) ?_
   refine Rcl.take (fun _ _ _ _ _ h => h) 8 _ 88 (.pointer (some ⟨b, o, none⟩)) rfl (by kernel_rfl) rfl (by kernel_rfl) (by kernel_rfl) rfl (fun w' hw => Rcl.mv rfl rfl) ?_
   refine Rcl.take (fun _ _ _ _ _ h => h) 9 _ 89 (.pointer (some ⟨b, o, none⟩)) rfl (by kernel_rfl) rfl (by kernel_rfl) (by kernel_rfl) rfl (fun w' hw => Rcl.nc rfl rfl) ?_
   refine Rcl.take (fun _ _ _ _ _ h => h) 10 _ 90 (.pointer (some ⟨b, o + 2, none⟩)) rfl (by kernel_rfl) rfl (by kernel_rfl) (by kernel_rfl) rfl (fun w' hw => Rcl.faP rfl rfl (.inl rfl)) ?_
   refine Rcl.take (fun _ _ _ _ _ h => h) 11 _ 91 (.slice (some ⟨g, 0, none⟩) 1 kc) rfl (by kernel_rfl) rfl (by kernel_rfl) (by kernel_rfl) rfl (fun w' hw => by subst hw; exact Rcl.ld1 rfl rfl c2 (Tryz.isAgg145 _)) ?_
   refine Rcl.take (fun _ _ _ _ _ h => h) 12 _ 92 (.pointer (some ⟨g, 0 + 0 * 6, none⟩)) rfl (by kernel_rfl) rfl (by kernel_rfl) (by kernel_rfl) rfl (fun w' hw => Rcl.ix (k := 0) rfl rfl rfl (by omega) Tryz.underlying145 (elemSize145 _)) ?_
   refine Rcl.take (fun _ _ _ _ _ h => h) 13 _ 93 (.pointer (some ⟨g, 0 + 0 * 6 + 4, none⟩)) rfl (by kernel_rfl) rfl (by kernel_rfl) (by kernel_rfl) rfl (fun w' hw => Rcl.faP rfl rfl (.inr rfl)) ?_
   refine Rcl.take (fun _ _ _ _ _ h => h) 14 _ 94 (.bool a.en) rfl (by kernel_rfl) rfl (by kernel_rfl) (by kernel_rfl) rfl (fun w' hw => by subst hw; exact Rcl.ld1 rfl rfl kaen (Tryz.isAgg4 _)) ?_
   refine Rcl.take (fun _ _ _ _ _ h => h) 15 _ 95 (.bool a.en) rfl (by kernel_rfl) rfl (by kernel_rfl) (by kernel_rfl) rfl (fun w' hw => Rcl.pk (b := false) rfl rfl rfl) ?_
   refine Rcl.call _ 96 93 _ _ #[.pointer (some ⟨g, 0, none⟩), .int .i32 r, .bool a.en] rfl (by kernel_rfl) rfl (by kernel_rfl) (by kernel_rfl) rfl (by kernel_rfl) (by kernel_rfl) hcall ?_
   rintro e W1 ⟨rfl, hpa, hka⟩
   refine ⟨_, rfl, Rcl.done (by kernel_rfl) ?_⟩
   replace hka : Kr g 0 lo g W W1 := ⟨hka.os, hka.tape, hka.output, hka.size, hka.blk, hka.cell, hka.row⟩
   have kr1 := hka.up (b := b) (o := o) (lo := lo) (hi := hi) ⟨hg1, hg2⟩ (Nat.le_refl _) (Nat.le_of_lt hg2) hbo hb
   have c6 := h3.keep (W' := W1) (fun j _ => cell_blk (hka.blk b hb (fun e => hgb e.symm) (by omega)) _)
   have hr1 := kr1.row b hr
   have hrg1 := hka.row g hrg
   have k2 := c6.c2
   have k4 := c6.c4
   have k5 := c6.c5
   have kf := hr1.frz (o + 4)
   have HRD : Hid ((Ps.one 6 a nu en true).read r false = .one 6 (a.read r a.en) nu (a.read r a.en).en ((a.read r a.en).en || (a.read r a.en).go)) := hide (by simp [Ps.read])
   obtain ⟨_, ke, ka⟩ := hpa.tell
   simp only [Nat.zero_add] at ke ka
   have HPA := hide hpa
   clear hpa hcall c0 c2 c4 c5 hka ih ha h3
   generalize (a.read r a.en).en = en1 at HRD ke
   generalize (a.read r a.en).go = ga at HRD ka
   have T1 := (Top.refl k4 k5).set4 en1
   simp only [Reg.ov, Act.put, List.setIfInBounds_toArray, List.set_cons_succ, List.set_cons_zero]
   have T2 := T1.set5 en1
   have z4 := T1.c4
   have z5 := T1.c5
   have z2 := (T1.c6 c6).c2
   have zf := (T1.row b hr1).frz (o + 5)
   have y5 := T2.c5
   have y2 := (T2.c6 c6).c2
   have yf := (T2.row b hr1).frz (o + 5)
   have yk := (cell_blk (T2.blk g hgb) 5).trans ka
   obtain ⟨e1, HE1⟩ : ∃ e1, Hid ((en1 || ga) = e1) := ⟨_, hide rfl⟩
   have T3 := T2.set5 e1
   have x5 := T3.c5
   have x2 := (T3.c6 c6).c2
   have xf := (T3.row b hr1).frz (o + 5)
   have FIN : Hid (AnsRp w0 W (.one 6 a nu en true) b o lo hi r false (.returned (.tuple #[])) (((W1.setCell ⟨b, o + 4, none⟩ (.bool en1)).setCell ⟨b, o + 5, none⟩ (.bool en1)).setCell ⟨b, o + 5, none⟩ (.bool e1))) := hide (p := AnsRp w0 W (.one 6 a nu en true) b o lo hi r false (.returned (.tuple #[])) (((W1.setCell ⟨b, o + 4, none⟩ (.bool en1)).setCell ⟨b, o + 5, none⟩ (.bool en1)).setCell ⟨b, o + 5, none⟩ (.bool e1))) ⟨rfl, by rw [HRD.out]; exact pr_one (by omega) (by first | (rw [HE1.out]; exact T3.c6 c6) | exact T3.c6 c6) hg1 hg2 (T3.row g hrg1) (T3.kid HPA.out hbo ⟨hg1, hg2⟩ (Nat.le_refl _) (Nat.le_of_lt hg2)), kr1.trans T3.kr⟩
   clear T1 T2 c6 T3
   go_wp2
   go_loopw [139] (fun u wr => (u = .int .i64 0 ∧ wr = ((W1.setCell ⟨b, o + 4, none⟩ (.bool en1)).setCell ⟨b, o + 5, none⟩ (.bool en1))) ∨ (u = .int .i64 1 ∧ wr = (((W1.setCell ⟨b, o + 4, none⟩ (.bool en1)).setCell ⟨b, o + 5, none⟩ (.bool en1)).setCell ⟨b, o + 5, none⟩ (.bool e1)))) (fun u _ => 1 - (intOf u).toNat)
   case atStart => exact .inl ⟨rfl, rfl⟩
   case round =>
     rcases hrel with ⟨rfl, rfl⟩ | ⟨rfl, rfl⟩
     · clear FIN
       cases en1 with
       | true =>
         go_wp2
         go_roundw
         case rel => exact .inr ⟨rfl, by rw [← HE1.out]; rfl⟩
         case measure => simp [intOf]
       | false =>
         go_wp2
         go_roundw
         case rel => exact .inr ⟨rfl, by rw [← HE1.out]; rfl⟩
         case measure => simp [intOf]
     · go_wp2
       go_end0
       exact FIN.out
set_option maxRecDepth 100000 in
set_option maxHeartbeats 2000000 in
theorem read_one7 (w0 W : World) (b o lo hi : Nat) (r : Int) (bg : Bool) (a : Ps) (nu en go : Bool) (ih : RdC a) (h : PR w0 W (.one 7 a nu en go) b o lo hi) (hc : (!bg && !go) = false) (hr : Row W b) (hbo : b < lo ∨ hi ≤ b) (_hhi : hi ≤ W.heap.size) (hB : Below w0.heap.size w0 W) (hlo : w0.heap.size ≤ lo) (_hwb : w0.heap.size ≤ b) :
   Calls Tryz.prog 93 #[.pointer (some ⟨b, o, none⟩), .int .i32 r, .bool bg] W (AnsRp w0 W (.one 7 a nu en go) b o lo hi r bg) := by
 unfold PR at h
 obtain ⟨_, sv, g, kc, h3, hg1, hg2, hrg, ha⟩ := h
 have c0 := h3.c0
 have c2 := h3.c2
 have c4 := h3.c4
 have c5 := h3.c5
 have hb := hr.lt
 have hgb : g ≠ b := by omega
 have es := elemSize145
 have kaen := ha.tell.2.1
 have hcall : ∀ f, Calls Tryz.prog 93 #[.pointer (some ⟨g, 0, none⟩), .int .i32 r, .bool f] W.drew (AnsRp w0 W.drew a g 0 lo g r f) := fun f => ih w0 W.drew g 0 lo g r f (ha.keep (fun _ _ => rfl) (fun _ _ _ => rfl)) hrg (.inr (Nat.le_refl g)) (Nat.le_of_lt hrg.lt) hB.drew hlo (by omega)
 go_enter Tryz.func93, Tryz.ntmps93
 cases bg with
 | true =>
   replace hcall := hcall true
   go_wp2_with fail
   refine Rcl.start 16 (fun w' => w' = W.drew) (by kernel_rfl) ?_
   refine Rcl.take (fun _ _ _ _ _ h => h) 0 _ 80 (.pointer (some ⟨b, o, none⟩)) rfl (by kernel_rfl) rfl (by kernel_rfl) (by kernel_rfl) rfl (fun w' hw => Rcl.mv rfl rfl) ?_
   refine Rcl.take (fun _ _ _ _ _ h => h) 1 _ 81 (.pointer (some ⟨b, o, none⟩)) rfl (by kernel_rfl) rfl (by kernel_rfl) (by kernel_rfl) rfl (fun w' hw => Rcl.nc rfl rfl) ?_
   refine Rcl.take (fun _ _ _ _ _ h => h) 2 _ 82 (.pointer (some ⟨b, o + 2, none⟩)) rfl (by kernel_rfl) rfl (by kernel_rfl) (by kernel_rfl) rfl (fun w' hw => Rcl.faP rfl rfl (.inl rfl)) ?_
   refine Rcl.take (fun _ _ _ _ _ h => h) 3 _ 83 (.slice (some ⟨g, 0, none⟩) 1 kc) rfl (by kernel_rfl) rfl (by kernel_rfl) (by kernel_rfl) rfl (fun w' hw => by subst hw; exact Rcl.ld1 rfl rfl c2 (Tryz.isAgg145 _)) ?_
   refine Rcl.take (fun _ _ _ _ _ h => h) 4 _ 84 (.pointer (some ⟨g, 0 + 0 * 6, none⟩)) rfl (by kernel_rfl) rfl (by kernel_rfl) (by kernel_rfl) rfl (fun w' hw => Rcl.ix (k := 0) rfl rfl rfl (by omega) Tryz.underlying145 (elemSize145 _)) ?_
   refine Rcl.take (fun _ _ _ _ _ h => h) 5 _ 85 (.int .i32 r) rfl (by kernel_rfl) rfl (by kernel_rfl) (by kernel_rfl) rfl (fun w' hw => Rcl.mv rfl rfl) ?_
   refine Rcl.take (fun _ _ _ _ _ h => h) 6 _ 86 (.bool true) rfl (by kernel_rfl) rfl (by kernel_rfl) (by kernel_rfl) rfl (fun w' hw => Rcl.mv rfl rfl) ?_
   refine Rcl.take (fun _ _ _ _ _ h => h) 7 _ 87 (.bool true) rfl (by kernel_rfl) rfl (by kernel_rfl) (by kernel_rfl) rfl (fun w' hw => Rcl.mv rfl rfl) ?_
   refine Rcl.skip (fun _ _ _ _ _ h => h) 8 _ 88 rfl (by kernel_rfl) rfl (by kernel_rfl) (by kernel_rfl) rfl ?_
   refine Rcl.skip (fun _ _ _ _ _ h => h) 9 _ 89 rfl (by kernel_rfl) rfl (by kernel_rfl) (by kernel_rfl) rfl ?_
   refine Rcl.skip (fun _ _ _ _ _ h => h) 10 _ 90 rfl (by kernel_rfl) rfl (by kernel_rfl) (by kernel_rfl) rfl ?_
   refine Rcl.skip (fun _ _ _ _ _ h => h) 11 _ 91 rfl (by kernel_rfl) rfl (by kernel_rfl) (by kernel_rfl) rfl ?_
   refine Rcl.skip (fun _ _ _ _ _ h => h) 12 _ 92 rfl (by kernel_rfl) rfl (by kernel_rfl) (by kernel_rfl) rfl ?_
   refine Rcl.skip (fun _ _ _ _ _ h => h) 13 _ 93 rfl (by kernel_rfl) rfl (by kernel_rfl) (by kernel_rfl) rfl ?_
   refine Rcl.skip (fun _ _ _ _ _ h => h) 14 _ 94 rfl (by kernel_rfl) rfl (by kernel_rfl) (by kernel_rfl) rfl ?_
   refine Rcl.take (fun _ _ _ _ _ h => h) 15 _ 95 (.bool true) rfl (by kernel_rfl) rfl (by kernel_rfl) (by kernel_rfl) rfl (fun w' hw => Rcl.pk (b := true) rfl rfl rfl) ?_
   refine Rcl.call _ 96 93 _ _ #[.pointer (some ⟨g, 0, none⟩), .int .i32 r, .bool true] rfl (by kernel_rfl) rfl (by kernel_rfl) (by kernel_rfl) rfl (by kernel_rfl) (by kernel_rfl) hcall ?_
   rintro e W1 ⟨rfl, hpa, hka⟩
   refine ⟨_, rfl, Rcl.done (by kernel_rfl) ?_⟩
   replace hka : Kr g 0 lo g W W1 := ⟨hka.os, hka.tape, hka.output, hka.size, hka.blk, hka.cell, hka.row⟩
   have kr1 := hka.up (b := b) (o := o) (lo := lo) (hi := hi) ⟨hg1, hg2⟩ (Nat.le_refl _) (Nat.le_of_lt hg2) hbo hb
   have c6 := h3.keep (W' := W1) (fun j _ => cell_blk (hka.blk b hb (fun e => hgb e.symm) (by omega)) _)
   have hr1 := kr1.row b hr
   have hrg1 := hka.row g hrg
   have k2 := c6.c2
   have k4 := c6.c4
   have k5 := c6.c5
   have kf := hr1.frz (o + 4)
   have HRD : Hid ((Ps.one 7 a nu en go).read r true = .one 7 (a.read r true) nu (a.read r true).en ((a.read r true).en || (a.read r true).go)) := hide (by simp [Ps.read])
   obtain ⟨_, ke, ka⟩ := hpa.tell
   simp only [Nat.zero_add] at ke ka
   have HPA := hide hpa
   clear hpa hcall c0 c2 c4 c5 hka ih ha h3
   generalize (a.read r true).en = en1 at HRD ke
   generalize (a.read r true).go = ga at HRD ka
   have T1 := (Top.refl k4 k5).set4 en1
   simp only [Reg.ov, Act.put, List.setIfInBounds_toArray, List.set_cons_succ, List.set_cons_zero]
   have T2 := T1.set5 en1
   have z4 := T1.c4
   have z5 := T1.c5
   have z2 := (T1.c6 c6).c2
   have zf := (T1.row b hr1).frz (o + 5)
   have y5 := T2.c5
   have y2 := (T2.c6 c6).c2
   have yf := (T2.row b hr1).frz (o + 5)
   have yk := (cell_blk (T2.blk g hgb) 5).trans ka
   obtain ⟨e1, HE1⟩ : ∃ e1, Hid ((en1 || ga) = e1) := ⟨_, hide rfl⟩
   have T3 := T2.set5 e1
   have x5 := T3.c5
   have x2 := (T3.c6 c6).c2
   have xf := (T3.row b hr1).frz (o + 5)
   have FIN : Hid (AnsRp w0 W (.one 7 a nu en go) b o lo hi r true (.returned (.tuple #[])) (((W1.setCell ⟨b, o + 4, none⟩ (.bool en1)).setCell ⟨b, o + 5, none⟩ (.bool en1)).setCell ⟨b, o + 5, none⟩ (.bool e1))) := hide (p := AnsRp w0 W (.one 7 a nu en go) b o lo hi r true (.returned (.tuple #[])) (((W1.setCell ⟨b, o + 4, none⟩ (.bool en1)).setCell ⟨b, o + 5, none⟩ (.bool en1)).setCell ⟨b, o + 5, none⟩ (.bool e1))) ⟨rfl, by rw [HRD.out]; exact pr_one (by omega) (by first | (rw [HE1.out]; exact T3.c6 c6) | exact T3.c6 c6) hg1 hg2 (T3.row g hrg1) (T3.kid HPA.out hbo ⟨hg1, hg2⟩ (Nat.le_refl _) (Nat.le_of_lt hg2)), kr1.trans T3.kr⟩
   clear T1 T2 c6 T3
   go_wp2
   go_loopw [139] (fun u wr => (u = .int .i64 0 ∧ wr = ((W1.setCell ⟨b, o + 4, none⟩ (.bool en1)).setCell ⟨b, o + 5, none⟩ (.bool en1))) ∨ (u = .int .i64 1 ∧ wr = (((W1.setCell ⟨b, o + 4, none⟩ (.bool en1)).setCell ⟨b, o + 5, none⟩ (.bool en1)).setCell ⟨b, o + 5, none⟩ (.bool e1)))) (fun u _ => 1 - (intOf u).toNat)
   case atStart => exact .inl ⟨rfl, rfl⟩
   case round =>
     rcases hrel with ⟨rfl, rfl⟩ | ⟨rfl, rfl⟩
     · clear FIN
       cases en1 with
       | true =>
         go_wp2
         go_roundw
         case rel => exact .inr ⟨rfl, by rw [← HE1.out]; rfl⟩
         case measure => simp [intOf]
       | false =>
         go_wp2
         go_roundw
         case rel => exact .inr ⟨rfl, by rw [← HE1.out]; rfl⟩
         case measure => simp [intOf]
     · go_wp2
       go_end0
       exact FIN.out
 | false =>
   obtain rfl : go = true := by simpa using hc
   replace hcall := hcall a.en
   go_wp2_with fail
   refine Rcl.start 16 (fun w' => w' = W.drew) (by kernel_rfl) ?_
   refine Rcl.take (fun _ _ _ _ _ h => h) 0 _ 80 (.pointer (some ⟨b, o, none⟩)) rfl (by kernel_rfl) rfl (by kernel_rfl) (by kernel_rfl) rfl (fun w' hw => Rcl.mv rfl rfl) ?_
   refine Rcl.take (fun _ _ _ _ _ h => h) 1 _ 81 (.pointer (some ⟨b, o, none⟩)) rfl (by kernel_rfl) rfl (by kernel_rfl) (by kernel_rfl) rfl (fun w' hw => Rcl.nc rfl rfl) ?_
   refine Rcl.take (fun _ _ _ _ _ h => h) 2 _ 82 (.pointer (some ⟨b, o + 2, none⟩)) rfl (by kernel_rfl) rfl (by kernel_rfl) (by kernel_rfl) rfl (fun w' hw => Rcl.faP rfl rfl (.inl rfl)) ?_
   refine Rcl.take (fun _ _ _ _ _ h => h) 3 _ 83 (.slice (some ⟨g, 0, none⟩) 1 kc) rfl (by kernel_rfl) rfl (by kernel_rfl) (by kernel_rfl) rfl (fun w' hw => by subst hw; exact Rcl.ld1 rfl rfl c2 (Tryz.isAgg145 _)) ?_
   refine Rcl.take (fun _ _ _ _ _ h => h) 4 _ 84 (.pointer (some ⟨g, 0 + 0 * 6, none⟩)) rfl (by kernel_rfl) rfl (by kernel_rfl) (by kernel_rfl) rfl (fun w' hw => Rcl.ix (k := 0) rfl rfl rfl (by omega) Tryz.underlying145 (elemSize145 _)) ?_
   refine Rcl.take (fun _ _ _ _ _ h => h) 5 _ 85 (.int .i32 r) rfl (by kernel_rfl) rfl (by kernel_rfl) (by kernel_rfl) rfl (fun w' hw => Rcl.mv rfl rfl) ?_
   refine Rcl.take (fun _ _ _ _ _ h => h) 6 _ 86 (.bool false) rfl (by kernel_rfl) rfl (by kernel_rfl) (by kernel_rfl) rfl (fun w' hw => Rcl.mv rfl rfl) ?_
   refine Rcl.take (fun _ _ _ _ _ h => h) 7 _ 87 (.bool false) rfl (by kernel_rfl) rfl (by kernel_rfl) (by kernel_rfl) rfl (fun w' hw => Rcl.mv rfl rfl) ?_
   refine Rcl.take (fun _ _ _ _ _ h => h) 8 _ 88 (.pointer (some ⟨b, o, none⟩)) rfl (by kernel_rfl) rfl (by kernel_rfl) (by kernel_rfl) rfl (fun w' hw => Rcl.mv rfl rfl) ?_
   refine Rcl.take (fun _ _ _ _ _ h => h) 9 _ 89 (.pointer (some ⟨b, o, none⟩)) rfl (by kernel_rfl) rfl (by kernel_rfl) (by kernel_rfl) rfl (fun w' hw => Rcl.nc rfl rfl) ?_
   refine Rcl.take (fun _ _ _ _ _ h => h) 10 _ 90 (.pointer (some ⟨b, o + 2, none⟩)) rfl (by kernel_rfl) rfl (by kernel_rfl) (by kernel_rfl) rfl (fun w' hw => Rcl.faP rfl rfl (.inl rfl)) ?_
   refine Rcl.take (fun _ _ _ _ _ h => h) 11 _ 91 (.slice (some ⟨g, 0, none⟩) 1 kc) rfl (by kernel_rfl) rfl (by kernel_rfl) (by kernel_rfl) rfl (fun w' hw => by subst hw; exact Rcl.ld1 rfl rfl c2 (Tryz.isAgg145 _)) ?_
   refine Rcl.take (fun _ _ _ _ _ h => h) 12 _ 92 (.pointer (some ⟨g, 0 + 0 * 6, none⟩)) rfl (by kernel_rfl) rfl (by kernel_rfl) (by kernel_rfl) rfl (fun w' hw => Rcl.ix (k := 0) rfl rfl rfl (by omega) Tryz.underlying145 (elemSize145 _)) ?_
   refine Rcl.take (fun _ _ _ _ _ h => h) 13 _ 93 (.pointer (some ⟨g, 0 + 0 * 6 + 4, none⟩)) rfl (by kernel_rfl) rfl (by kernel_rfl) (by kernel_rfl) rfl (fun w' hw => Rcl.faP rfl rfl (.inr rfl)) ?_
   refine Rcl.take (fun _ _ _ _ _ h => h) 14 _ 94 (.bool a.en) rfl (by kernel_rfl) rfl (by kernel_rfl) (by kernel_rfl) rfl (fun w' hw => by subst hw; exact Rcl.ld1 rfl rfl kaen (Tryz.isAgg4 _)) ?_
   refine Rcl.take (fun _ _ _ _ _ h => h) 15 _ 95 (.bool a.en) rfl (by kernel_rfl) rfl (by kernel_rfl) (by kernel_rfl) rfl (fun w' hw => Rcl.pk (b := false) rfl rfl rfl) ?_
   refine Rcl.call _ 96 93 _ _ #[.pointer (some ⟨g, 0, none⟩), .int .i32 r, .bool a.en] rfl (by kernel_rfl) rfl (by kernel_rfl) (by kernel_rfl) rfl (by kernel_rfl) (by kernel_rfl) hcall ?_
   rintro e W1 ⟨rfl, hpa, hka⟩
   refine ⟨_, rfl, Rcl.done (by kernel_rfl) ?_⟩
   replace hka : Kr g 0 lo g W W1 := ⟨hka.os, hka.tape, hka.output, hka.size, hka.blk, hka.cell, hka.row⟩
   have kr1 := hka.up (b := b) (o := o) (lo := lo) (hi := hi) ⟨hg1, hg2⟩ (Nat.le_refl _) (Nat.le_of_lt hg2) hbo hb
   have c6 := h3.keep (W' := W1) (fun j _ => cell_blk (hka.blk b hb (fun e => hgb e.symm) (by omega)) _)
   have hr1 := kr1.row b hr
   have hrg1 := hka.row g hrg
   have k2 := c6.c2
   have k4 := c6.c4
   have k5 := c6.c5
   have kf := hr1.frz (o + 4)
   have HRD : Hid ((Ps.one 7 a nu en true).read r false = .one 7 (a.read r a.en) nu (a.read r a.en).en ((a.read r a.en).en || (a.read r a.en).go)) := hide (by simp [Ps.read])
   obtain ⟨_, ke, ka⟩ := hpa.tell
   simp only [Nat.zero_add] at ke ka
   have HPA := hide hpa
   clear hpa hcall c0 c2 c4 c5 hka ih ha h3
   generalize (a.read r a.en).en = en1 at HRD ke
   generalize (a.read r a.en).go = ga at HRD ka
   have T1 := (Top.refl k4 k5).set4 en1
   simp only [Reg.ov, Act.put, List.setIfInBounds_toArray, List.set_cons_succ, List.set_cons_zero]
   have T2 := T1.set5 en1
   have z4 := T1.c4
   have z5 := T1.c5
   have z2 := (T1.c6 c6).c2
   have zf := (T1.row b hr1).frz (o + 5)
   have y5 := T2.c5
   have y2 := (T2.c6 c6).c2
   have yf := (T2.row b hr1).frz (o + 5)
   have yk := (cell_blk (T2.blk g hgb) 5).trans ka
   obtain ⟨e1, HE1⟩ : ∃ e1, Hid ((en1 || ga) = e1) := ⟨_, hide rfl⟩
   have T3 := T2.set5 e1
   have x5 := T3.c5
   have x2 := (T3.c6 c6).c2
   have xf := (T3.row b hr1).frz (o + 5)
   have FIN : Hid (AnsRp w0 W (.one 7 a nu en true) b o lo hi r false (.returned (.tuple #[])) (((W1.setCell ⟨b, o + 4, none⟩ (.bool en1)).setCell ⟨b, o + 5, none⟩ (.bool en1)).setCell ⟨b, o + 5, none⟩ (.bool e1))) := hide (p := AnsRp w0 W (.one 7 a nu en true) b o lo hi r false (.returned (.tuple #[])) (((W1.setCell ⟨b, o + 4, none⟩ (.bool en1)).setCell ⟨b, o + 5, none⟩ (.bool en1)).setCell ⟨b, o + 5, none⟩ (.bool e1))) ⟨rfl, by rw [HRD.out]; exact pr_one (by omega) (by first | (rw [HE1.out]; exact T3.c6 c6) | exact T3.c6 c6) hg1 hg2 (T3.row g hrg1) (T3.kid HPA.out hbo ⟨hg1, hg2⟩ (Nat.le_refl _) (Nat.le_of_lt hg2)), kr1.trans T3.kr⟩
   clear T1 T2 c6 T3
   go_wp2
   go_loopw [139] (fun u wr => (u = .int .i64 0 ∧ wr = ((W1.setCell ⟨b, o + 4, none⟩ (.bool en1)).setCell ⟨b, o + 5, none⟩ (.bool en1))) ∨ (u = .int .i64 1 ∧ wr = (((W1.setCell ⟨b, o + 4, none⟩ (.bool en1)).setCell ⟨b, o + 5, none⟩ (.bool en1)).setCell ⟨b, o + 5, none⟩ (.bool e1)))) (fun u _ => 1 - (intOf u).toNat)
   case atStart => exact .inl ⟨rfl, rfl⟩
   case round =>
     rcases hrel with ⟨rfl, rfl⟩ | ⟨rfl, rfl⟩
     · clear FIN
       cases en1 with
       | true =>
         go_wp2
         go_roundw
         case rel => exact .inr ⟨rfl, by rw [← HE1.out]; rfl⟩
         case measure => simp [intOf]
       | false =>
         go_wp2
         go_roundw
         case rel => exact .inr ⟨rfl, by rw [← HE1.out]; rfl⟩
         case measure => simp [intOf]
     · go_wp2
       go_end0
       exact FIN.out
set_option maxRecDepth 100000 in
set_option maxHeartbeats 2000000 in
theorem read_alt (w0 W : World) (b o lo hi : Nat) (r : Int) (bg : Bool) (x y : Ps) (nu en go : Bool) (ihx : RdC x) (ihy : RdC y) (h : PR w0 W (.two 5 x y nu en go) b o lo hi) (hc : (!bg && !go) = false) (hr : Row W b) (hbo : b < lo ∨ hi ≤ b) (hhi : hi ≤ W.heap.size) (hB : Below w0.heap.size w0 W) (hlo : w0.heap.size ≤ lo) (_hwb : w0.heap.size ≤ b) :
   Calls Tryz.prog 93 #[.pointer (some ⟨b, o, none⟩), .int .i32 r, .bool bg] W (AnsRp w0 W (.two 5 x y nu en go) b o lo hi r bg) := by
 unfold PR at h
 obtain ⟨_, sv, g, kc, l1, h1, l2, h2, h3, hg1, hg2, hrg, hx, hy, i1, i2, i3⟩ := h
 have c0 := h3.c0
 have c2 := h3.c2
 have c4 := h3.c4
 have c5 := h3.c5
 have hb := hr.lt
 have hgl := hrg.lt
 have hgb : g ≠ b := by omega
 have es := elemSize145
 go_enter Tryz.func93, Tryz.ntmps93
 cases bg with
 | true =>
   have hcall1 := ihx w0 W g 0 l1 h1 r true hx hrg (by omega) (by omega) hB (by omega) (by omega)
   go_wp2_with fail
   refine hcall1.mono ?_
   rintro e W1 ⟨rfl, px, k1⟩
   clear hcall1 c0 c2 c4 c5
   have p1 := k1.row g hrg
   have hy1 : PR w0 W1 y g 6 l2 h2 := hy.other k1 hgl (by omega) (by omega) (by omega) (by omega) (by omega)
   have B1 : Below w0.heap.size w0 W1 := k1.below hB (by omega) (by omega) (by have := hr.lt; omega)
   have s1 := k1.size
   have hcall2 := ihy w0 W1 g 6 l2 h2 r true hy1 p1 (by omega) (by omega) B1 (by omega) (by omega)
   have u1 := k1.up (b := b) (o := o) (lo := lo) (hi := hi) ⟨hg1, hg2⟩ (by omega) (by omega) hbo hb
   have d6 := h3.keep (W' := W1) (fun j _ => cell_blk (k1.blk b hb (fun e => hgb e.symm) (by omega)) _)
   have d0 := d6.c0
   have d2 := d6.c2
   go_wp2_with fail
   refine hcall2.mono ?_
   rintro e W2 ⟨rfl, py, k2⟩
   clear hcall2 d0 d2
   have px2 : PR w0 W2 (x.read r true) g 0 l1 h1 := px.other k2 p1.lt (by omega) (by omega) (by omega) (by omega) (by omega)
   have u2 := u1.trans (k2.up (b := b) (o := o) (lo := lo) (hi := hi) ⟨hg1, hg2⟩ (by omega) (by omega) hbo (by omega))
   have c6 := d6.keep (W' := W2) (fun j _ => cell_blk (k2.blk b (by omega) (fun e => hgb e.symm) (by omega)) _)
   have hr1 := u2.row b hr
   have hrg1 := u2.row g hrg
   have k2' := c6.c2
   have k4 := c6.c4
   have k5 := c6.c5
   have kf := hr1.frz (o + 4)
   obtain ⟨_, kxe, ka⟩ := px2.tell
   obtain ⟨kyn, kye, kb⟩ := py.tell
   simp only [Nat.zero_add, Nat.reduceAdd] at kxe ka kyn kye kb
   have HRD : Hid ((Ps.two 5 x y nu en go).read r true = .two 5 (x.read r true) (y.read r true) nu ((x.read r true).en || (y.read r true).en) ((x.read r true).en || (y.read r true).en || (x.read r true).go || (y.read r true).go)) := hide (by simp [Ps.read])
   have HPX := hide px2
   have HPY := hide py
   clear px py px2 ihx ihy hx hy hy1 k1 k2 B1 d6 h3 kyn
   generalize (x.read r true).en = ex at HRD kxe
   generalize (y.read r true).en = en1 at HRD kye
   generalize (x.read r true).go = ga at HRD ka
   generalize (y.read r true).go = gb at HRD kb
   cases ex with
   | true =>
     have T1 := (Top.refl k4 k5).set4 true
     rw [show (true || en1) = true from rfl] at HRD
     have T2 := T1.set5 true
     have z4 := T1.c4
     have z5 := T1.c5
     have z2 := (T1.c6 c6).c2
     have zf := (T1.row b hr1).frz (o + 5)
     have y5 := T2.c5
     have y2 := (T2.c6 c6).c2
     have yf := (T2.row b hr1).frz (o + 5)
     have yk := (cell_blk (T2.blk g hgb) 5).trans ka
     obtain ⟨e1, HE1⟩ : ∃ e1, Hid ((true || ga) = e1) := ⟨_, hide rfl⟩
     have T3 := T2.set5 e1
     have x5 := T3.c5
     have x2 := (T3.c6 c6).c2
     have xf := (T3.row b hr1).frz (o + 5)
     have xk := (cell_blk (T3.blk g hgb) 11).trans kb
     obtain ⟨e2, HE2⟩ : ∃ e2, Hid ((e1 || gb) = e2) := ⟨_, hide rfl⟩
     have T4 := T3.set5 e2
     have w5 := T4.c5
     have w2 := (T4.c6 c6).c2
     have wf := (T4.row b hr1).frz (o + 5)
     have FIN : Hid (AnsRp w0 W (.two 5 x y nu en go) b o lo hi r true (.returned (.tuple #[])) ((((W2.setCell ⟨b, o + 4, none⟩ (.bool true)).setCell ⟨b, o + 5, none⟩ (.bool true)).setCell ⟨b, o + 5, none⟩ (.bool e1)).setCell ⟨b, o + 5, none⟩ (.bool e2))) := hide (p := AnsRp w0 W (.two 5 x y nu en go) b o lo hi r true (.returned (.tuple #[])) ((((W2.setCell ⟨b, o + 4, none⟩ (.bool true)).setCell ⟨b, o + 5, none⟩ (.bool true)).setCell ⟨b, o + 5, none⟩ (.bool e1)).setCell ⟨b, o + 5, none⟩ (.bool e2))) ⟨rfl, by rw [HRD.out]; exact pr_two (by omega) (by rw [HE1.out, HE2.out]; exact T4.c6 c6) hg1 hg2 (T4.row g hrg1) (T4.kid HPX.out hbo ⟨hg1, hg2⟩ i1.1 (by omega)) (T4.kid HPY.out hbo ⟨hg1, hg2⟩ i2.1 (by omega)) i1 i2 i3, u2.trans T4.kr⟩
     clear T1 T2 c6 T3 T4
     go_wp2
     go_loopw [139] (fun u wr => (u = .int .i64 0 ∧ wr = ((W2.setCell ⟨b, o + 4, none⟩ (.bool true)).setCell ⟨b, o + 5, none⟩ (.bool true))) ∨ (u = .int .i64 1 ∧ wr = (((W2.setCell ⟨b, o + 4, none⟩ (.bool true)).setCell ⟨b, o + 5, none⟩ (.bool true)).setCell ⟨b, o + 5, none⟩ (.bool e1))) ∨ (u = .int .i64 2 ∧ wr = ((((W2.setCell ⟨b, o + 4, none⟩ (.bool true)).setCell ⟨b, o + 5, none⟩ (.bool true)).setCell ⟨b, o + 5, none⟩ (.bool e1)).setCell ⟨b, o + 5, none⟩ (.bool e2)))) (fun u _ => 2 - (intOf u).toNat)
     case atStart => exact .inl ⟨rfl, rfl⟩
     case round =>
       rcases hrel with ⟨rfl, rfl⟩ | ⟨rfl, rfl⟩ | ⟨rfl, rfl⟩
       · clear FIN
         go_wp2
         go_roundw
         case rel => exact .inr (.inl ⟨rfl, by rw [← HE1.out]; rfl⟩)
         case measure => simp [intOf]
       · clear FIN
         cases e1 with
         | true =>
           go_wp2
           go_roundw
           case rel => exact .inr (.inr ⟨rfl, by rw [← HE2.out]; rfl⟩)
           case measure => simp [intOf]
         | false =>
           go_wp2
           go_roundw
           case rel => exact .inr (.inr ⟨rfl, by rw [← HE2.out]; rfl⟩)
           case measure => simp [intOf]
       · go_wp2
         go_end0
         exact FIN.out
   | false =>
     have T1 := (Top.refl k4 k5).set4 en1
     rw [show (false || en1) = en1 from rfl] at HRD
     have T2 := T1.set5 en1
     have z4 := T1.c4
     have z5 := T1.c5
     have z2 := (T1.c6 c6).c2
     have zf := (T1.row b hr1).frz (o + 5)
     have y5 := T2.c5
     have y2 := (T2.c6 c6).c2
     have yf := (T2.row b hr1).frz (o + 5)
     have yk := (cell_blk (T2.blk g hgb) 5).trans ka
     obtain ⟨e1, HE1⟩ : ∃ e1, Hid ((en1 || ga) = e1) := ⟨_, hide rfl⟩
     have T3 := T2.set5 e1
     have x5 := T3.c5
     have x2 := (T3.c6 c6).c2
     have xf := (T3.row b hr1).frz (o + 5)
     have xk := (cell_blk (T3.blk g hgb) 11).trans kb
     obtain ⟨e2, HE2⟩ : ∃ e2, Hid ((e1 || gb) = e2) := ⟨_, hide rfl⟩
     have T4 := T3.set5 e2
     have w5 := T4.c5
     have w2 := (T4.c6 c6).c2
     have wf := (T4.row b hr1).frz (o + 5)
     have FIN : Hid (AnsRp w0 W (.two 5 x y nu en go) b o lo hi r true (.returned (.tuple #[])) ((((W2.setCell ⟨b, o + 4, none⟩ (.bool en1)).setCell ⟨b, o + 5, none⟩ (.bool en1)).setCell ⟨b, o + 5, none⟩ (.bool e1)).setCell ⟨b, o + 5, none⟩ (.bool e2))) := hide (p := AnsRp w0 W (.two 5 x y nu en go) b o lo hi r true (.returned (.tuple #[])) ((((W2.setCell ⟨b, o + 4, none⟩ (.bool en1)).setCell ⟨b, o + 5, none⟩ (.bool en1)).setCell ⟨b, o + 5, none⟩ (.bool e1)).setCell ⟨b, o + 5, none⟩ (.bool e2))) ⟨rfl, by rw [HRD.out]; exact pr_two (by omega) (by rw [HE1.out, HE2.out]; exact T4.c6 c6) hg1 hg2 (T4.row g hrg1) (T4.kid HPX.out hbo ⟨hg1, hg2⟩ i1.1 (by omega)) (T4.kid HPY.out hbo ⟨hg1, hg2⟩ i2.1 (by omega)) i1 i2 i3, u2.trans T4.kr⟩
     clear T1 T2 c6 T3 T4
     go_wp2
     go_loopw [139] (fun u wr => (u = .int .i64 0 ∧ wr = ((W2.setCell ⟨b, o + 4, none⟩ (.bool en1)).setCell ⟨b, o + 5, none⟩ (.bool en1))) ∨ (u = .int .i64 1 ∧ wr = (((W2.setCell ⟨b, o + 4, none⟩ (.bool en1)).setCell ⟨b, o + 5, none⟩ (.bool en1)).setCell ⟨b, o + 5, none⟩ (.bool e1))) ∨ (u = .int .i64 2 ∧ wr = ((((W2.setCell ⟨b, o + 4, none⟩ (.bool en1)).setCell ⟨b, o + 5, none⟩ (.bool en1)).setCell ⟨b, o + 5, none⟩ (.bool e1)).setCell ⟨b, o + 5, none⟩ (.bool e2)))) (fun u _ => 2 - (intOf u).toNat)
     case atStart => exact .inl ⟨rfl, rfl⟩
     case round =>
       rcases hrel with ⟨rfl, rfl⟩ | ⟨rfl, rfl⟩ | ⟨rfl, rfl⟩
       · clear FIN
         cases en1 with
         | true =>
           go_wp2
           go_roundw
           case rel => exact .inr (.inl ⟨rfl, by rw [← HE1.out]; rfl⟩)
           case measure => simp [intOf]
         | false =>
           go_wp2
           go_roundw
           case rel => exact .inr (.inl ⟨rfl, by rw [← HE1.out]; rfl⟩)
           case measure => simp [intOf]
       · clear FIN
         cases e1 with
         | true =>
           go_wp2
           go_roundw
           case rel => exact .inr (.inr ⟨rfl, by rw [← HE2.out]; rfl⟩)
           case measure => simp [intOf]
         | false =>
           go_wp2
           go_roundw
           case rel => exact .inr (.inr ⟨rfl, by rw [← HE2.out]; rfl⟩)
           case measure => simp [intOf]
       · go_wp2
         go_end0
         exact FIN.out
 | false =>
   obtain rfl : go = true := by simpa using hc
   have hcall1 := ihx w0 W g 0 l1 h1 r false hx hrg (by omega) (by omega) hB (by omega) (by omega)
   go_wp2_with fail
   refine hcall1.mono ?_
   rintro e W1 ⟨rfl, px, k1⟩
   clear hcall1 c0 c2 c4 c5
   have p1 := k1.row g hrg
   have hy1 : PR w0 W1 y g 6 l2 h2 := hy.other k1 hgl (by omega) (by omega) (by omega) (by omega) (by omega)
   have B1 : Below w0.heap.size w0 W1 := k1.below hB (by omega) (by omega) (by have := hr.lt; omega)
   have s1 := k1.size
   have hcall2 := ihy w0 W1 g 6 l2 h2 r false hy1 p1 (by omega) (by omega) B1 (by omega) (by omega)
   have u1 := k1.up (b := b) (o := o) (lo := lo) (hi := hi) ⟨hg1, hg2⟩ (by omega) (by omega) hbo hb
   have d6 := h3.keep (W' := W1) (fun j _ => cell_blk (k1.blk b hb (fun e => hgb e.symm) (by omega)) _)
   have d0 := d6.c0
   have d2 := d6.c2
   go_wp2_with fail
   refine hcall2.mono ?_
   rintro e W2 ⟨rfl, py, k2⟩
   clear hcall2 d0 d2
   have px2 : PR w0 W2 (x.read r false) g 0 l1 h1 := px.other k2 p1.lt (by omega) (by omega) (by omega) (by omega) (by omega)
   have u2 := u1.trans (k2.up (b := b) (o := o) (lo := lo) (hi := hi) ⟨hg1, hg2⟩ (by omega) (by omega) hbo (by omega))
   have c6 := d6.keep (W' := W2) (fun j _ => cell_blk (k2.blk b (by omega) (fun e => hgb e.symm) (by omega)) _)
   have hr1 := u2.row b hr
   have hrg1 := u2.row g hrg
   have k2' := c6.c2
   have k4 := c6.c4
   have k5 := c6.c5
   have kf := hr1.frz (o + 4)
   obtain ⟨_, kxe, ka⟩ := px2.tell
   obtain ⟨kyn, kye, kb⟩ := py.tell
   simp only [Nat.zero_add, Nat.reduceAdd] at kxe ka kyn kye kb
   have HRD : Hid ((Ps.two 5 x y nu en true).read r false = .two 5 (x.read r false) (y.read r false) nu ((x.read r false).en || (y.read r false).en) ((x.read r false).en || (y.read r false).en || (x.read r false).go || (y.read r false).go)) := hide (by simp [Ps.read])
   have HPX := hide px2
   have HPY := hide py
   clear px py px2 ihx ihy hx hy hy1 k1 k2 B1 d6 h3 kyn
   generalize (x.read r false).en = ex at HRD kxe
   generalize (y.read r false).en = en1 at HRD kye
   generalize (x.read r false).go = ga at HRD ka
   generalize (y.read r false).go = gb at HRD kb
   cases ex with
   | true =>
     have T1 := (Top.refl k4 k5).set4 true
     rw [show (true || en1) = true from rfl] at HRD
     have T2 := T1.set5 true
     have z4 := T1.c4
     have z5 := T1.c5
     have z2 := (T1.c6 c6).c2
     have zf := (T1.row b hr1).frz (o + 5)
     have y5 := T2.c5
     have y2 := (T2.c6 c6).c2
     have yf := (T2.row b hr1).frz (o + 5)
     have yk := (cell_blk (T2.blk g hgb) 5).trans ka
     obtain ⟨e1, HE1⟩ : ∃ e1, Hid ((true || ga) = e1) := ⟨_, hide rfl⟩
     have T3 := T2.set5 e1
     have x5 := T3.c5
     have x2 := (T3.c6 c6).c2
     have xf := (T3.row b hr1).frz (o + 5)
     have xk := (cell_blk (T3.blk g hgb) 11).trans kb
     obtain ⟨e2, HE2⟩ : ∃ e2, Hid ((e1 || gb) = e2) := ⟨_, hide rfl⟩
     have T4 := T3.set5 e2
     have w5 := T4.c5
     have w2 := (T4.c6 c6).c2
     have wf := (T4.row b hr1).frz (o + 5)
     have FIN : Hid (AnsRp w0 W (.two 5 x y nu en true) b o lo hi r false (.returned (.tuple #[])) ((((W2.setCell ⟨b, o + 4, none⟩ (.bool true)).setCell ⟨b, o + 5, none⟩ (.bool true)).setCell ⟨b, o + 5, none⟩ (.bool e1)).setCell ⟨b, o + 5, none⟩ (.bool e2))) := hide (p := AnsRp w0 W (.two 5 x y nu en true) b o lo hi r false (.returned (.tuple #[])) ((((W2.setCell ⟨b, o + 4, none⟩ (.bool true)).setCell ⟨b, o + 5, none⟩ (.bool true)).setCell ⟨b, o + 5, none⟩ (.bool e1)).setCell ⟨b, o + 5, none⟩ (.bool e2))) ⟨rfl, by rw [HRD.out]; exact pr_two (by omega) (by rw [HE1.out, HE2.out]; exact T4.c6 c6) hg1 hg2 (T4.row g hrg1) (T4.kid HPX.out hbo ⟨hg1, hg2⟩ i1.1 (by omega)) (T4.kid HPY.out hbo ⟨hg1, hg2⟩ i2.1 (by omega)) i1 i2 i3, u2.trans T4.kr⟩
     clear T1 T2 c6 T3 T4
     go_wp2
     go_loopw [139] (fun u wr => (u = .int .i64 0 ∧ wr = ((W2.setCell ⟨b, o + 4, none⟩ (.bool true)).setCell ⟨b, o + 5, none⟩ (.bool true))) ∨ (u = .int .i64 1 ∧ wr = (((W2.setCell ⟨b, o + 4, none⟩ (.bool true)).setCell ⟨b, o + 5, none⟩ (.bool true)).setCell ⟨b, o + 5, none⟩ (.bool e1))) ∨ (u = .int .i64 2 ∧ wr = ((((W2.setCell ⟨b, o + 4, none⟩ (.bool true)).setCell ⟨b, o + 5, none⟩ (.bool true)).setCell ⟨b, o + 5, none⟩ (.bool e1)).setCell ⟨b, o + 5, none⟩ (.bool e2)))) (fun u _ => 2 - (intOf u).toNat)
     case atStart => exact .inl ⟨rfl, rfl⟩
     case round =>
       rcases hrel with ⟨rfl, rfl⟩ | ⟨rfl, rfl⟩ | ⟨rfl, rfl⟩
       · clear FIN
         go_wp2
         go_roundw
         case rel => exact .inr (.inl ⟨rfl, by rw [← HE1.out]; rfl⟩)
         case measure => simp [intOf]
       · clear FIN
         cases e1 with
         | true =>
           go_wp2
           go_roundw
           case rel => exact .inr (.inr ⟨rfl, by rw [← HE2.out]; rfl⟩)
           case measure => simp [intOf]
         | false =>
           go_wp2
           go_roundw
           case rel => exact .inr (.inr ⟨rfl, by rw [← HE2.out]; rfl⟩)
           case measure => simp [intOf]
       · go_wp2
         go_end0
         exact FIN.out
   | false =>
     have T1 := (Top.refl k4 k5).set4 en1
     rw [show (false || en1) = en1 from rfl] at HRD
     have T2 := T1.set5 en1
     have z4 := T1.c4
     have z5 := T1.c5
     have z2 := (T1.c6 c6).c2
     have zf := (T1.row b hr1).frz (o + 5)
     have y5 := T2.c5
     have y2 := (T2.c6 c6).c2
     have yf := (T2.row b hr1).frz (o + 5)
     have yk := (cell_blk (T2.blk g hgb) 5).trans ka
     obtain ⟨e1, HE1⟩ : ∃ e1, Hid ((en1 || ga) = e1) := ⟨_, hide rfl⟩
     have T3 := T2.set5 e1
     have x5 := T3.c5
     have x2 := (T3.c6 c6).c2
     have xf := (T3.row b hr1).frz (o + 5)
     have xk := (cell_blk (T3.blk g hgb) 11).trans kb
     obtain ⟨e2, HE2⟩ : ∃ e2, Hid ((e1 || gb) = e2) := ⟨_, hide rfl⟩
     have T4 := T3.set5 e2
     have w5 := T4.c5
     have w2 := (T4.c6 c6).c2
     have wf := (T4.row b hr1).frz (o + 5)
     have FIN : Hid (AnsRp w0 W (.two 5 x y nu en true) b o lo hi r false (.returned (.tuple #[])) ((((W2.setCell ⟨b, o + 4, none⟩ (.bool en1)).setCell ⟨b, o + 5, none⟩ (.bool en1)).setCell ⟨b, o + 5, none⟩ (.bool e1)).setCell ⟨b, o + 5, none⟩ (.bool e2))) := hide (p := AnsRp w0 W (.two 5 x y nu en true) b o lo hi r false (.returned (.tuple #[])) ((((W2.setCell ⟨b, o + 4, none⟩ (.bool en1)).setCell ⟨b, o + 5, none⟩ (.bool en1)).setCell ⟨b, o + 5, none⟩ (.bool e1)).setCell ⟨b, o + 5, none⟩ (.bool e2))) ⟨rfl, by rw [HRD.out]; exact pr_two (by omega) (by rw [HE1.out, HE2.out]; exact T4.c6 c6) hg1 hg2 (T4.row g hrg1) (T4.kid HPX.out hbo ⟨hg1, hg2⟩ i1.1 (by omega)) (T4.kid HPY.out hbo ⟨hg1, hg2⟩ i2.1 (by omega)) i1 i2 i3, u2.trans T4.kr⟩
     clear T1 T2 c6 T3 T4
     go_wp2
     go_loopw [139] (fun u wr => (u = .int .i64 0 ∧ wr = ((W2.setCell ⟨b, o + 4, none⟩ (.bool en1)).setCell ⟨b, o + 5, none⟩ (.bool en1))) ∨ (u = .int .i64 1 ∧ wr = (((W2.setCell ⟨b, o + 4, none⟩ (.bool en1)).setCell ⟨b, o + 5, none⟩ (.bool en1)).setCell ⟨b, o + 5, none⟩ (.bool e1))) ∨ (u = .int .i64 2 ∧ wr = ((((W2.setCell ⟨b, o + 4, none⟩ (.bool en1)).setCell ⟨b, o + 5, none⟩ (.bool en1)).setCell ⟨b, o + 5, none⟩ (.bool e1)).setCell ⟨b, o + 5, none⟩ (.bool e2)))) (fun u _ => 2 - (intOf u).toNat)
     case atStart => exact .inl ⟨rfl, rfl⟩
     case round =>
       rcases hrel with ⟨rfl, rfl⟩ | ⟨rfl, rfl⟩ | ⟨rfl, rfl⟩
       · clear FIN
         cases en1 with
         | true =>
           go_wp2
           go_roundw
           case rel => exact .inr (.inl ⟨rfl, by rw [← HE1.out]; rfl⟩)
           case measure => simp [intOf]
         | false =>
           go_wp2
           go_roundw
           case rel => exact .inr (.inl ⟨rfl, by rw [← HE1.out]; rfl⟩)
           case measure => simp [intOf]
       · clear FIN
         cases e1 with
         | true =>
           go_wp2
           go_roundw
           case rel => exact .inr (.inr ⟨rfl, by rw [← HE2.out]; rfl⟩)
           case measure => simp [intOf]
         | false =>
           go_wp2
           go_roundw
           case rel => exact .inr (.inr ⟨rfl, by rw [← HE2.out]; rfl⟩)
           case measure => simp [intOf]
       · go_wp2
         go_end0
         exact FIN.out
def AnsB (w0 W : World) (x y : Ps) (nu en go : Bool) (b o lo hi : Nat) (r : Int) (bg : Bool) (e : Ending) (W' : World) : Prop :=
 e = .returned (.tuple #[]) ∧ ∃ sv g kc l1 h1 l2 h2 W2, lo ≤ g ∧ g < hi ∧ Row W2 g ∧ (lo ≤ l1 ∧ h1 ≤ hi ∧ (g < l1 ∨ h1 ≤ g)) ∧ (lo ≤ l2 ∧ h2 ≤ hi ∧ (g < l2 ∨ h2 ≤ g)) ∧ (h1 ≤ l2 ∨ h2 ≤ l1) ∧ PR w0 W2 (x.read r bg) g 0 l1 h1 ∧ PR w0 W2 (y.read r (bg && x.nu || x.en)) g 6 l2 h2 ∧
   C6 W2 b o 4 sv (.slice (some ⟨g, 0, none⟩) 2 kc) nu en go ∧ Kr b o lo hi W W2 ∧ W' = W2.setCell ⟨b, o + 4, none⟩ (.bool ((y.read r (bg && x.nu || x.en)).en || (x.read r bg).en && (y.read r (bg && x.nu || x.en)).nu))
set_option maxRecDepth 100000 in
set_option maxHeartbeats 2000000 in
theorem both_any (w0 W : World) (b o lo hi : Nat) (r : Int) (bg : Bool) (x y : Ps) (nu en go : Bool) (ihx : RdC x) (ihy : RdC y) (h : PR w0 W (.two 4 x y nu en go) b o lo hi) (hr : Row W b) (hbo : b < lo ∨ hi ≤ b) (hhi : hi ≤ W.heap.size) (hB : Below w0.heap.size w0 W) (hlo : w0.heap.size ≤ lo) (_hwb : w0.heap.size ≤ b) :
   Calls Tryz.prog 120 #[.pointer (some ⟨b, o, none⟩), .int .i32 r, .bool bg] W (AnsB w0 W x y nu en go b o lo hi r bg) := by
 unfold PR at h
 obtain ⟨_, sv, g, kc, l1, h1, l2, h2, h3, hg1, hg2, hrg, hx, hy, i1, i2, i3⟩ := h
 have c0 := h3.c0
 have c2 := h3.c2
 have c4 := h3.c4
 have c5 := h3.c5
 have hb := hr.lt
 have hgl := hrg.lt
 have hgb : g ≠ b := by omega
 obtain ⟨xn, xe, _⟩ := hx.tell
 simp only [Nat.zero_add] at xn xe
 have es := elemSize145
 go_enter Tryz.func120, Tryz.ntmps120
 cases bg with
 | true =>
   cases hn : x.nu with
   | true =>
     rw [hn] at xn
     have hcall1 : ∀ n, Calls Tryz.prog 93 #[.pointer (some ⟨g, 0, none⟩), .int .i32 r, .bool true] (W.drewN n) (AnsRp w0 (W.drewN n) x g 0 l1 h1 r true) := fun n => ihx w0 (W.drewN n) g 0 l1 h1 r true (hx.keep (fun _ _ => rfl) (fun _ _ _ => rfl)) hrg (by omega) (show h1 ≤ W.heap.size by omega) (below_drewN hB n) (by omega) (by omega)
     go_wp2_with fail
     go_quiet (fail)
     go_wp2_with fail
     refine (hcall1 _).mono ?_
     rintro e W1 ⟨rfl, px, k1'⟩
     have k1 : Kr g 0 l1 h1 W W1 := ⟨k1'.os, k1'.tape, k1'.output, k1'.size, k1'.blk, k1'.cell, k1'.row⟩
     clear k1'
     clear hcall1 c0 c2 c4 c5 xn xe
     have p1 := k1.row g hrg
     have hy1 : PR w0 W1 y g 6 l2 h2 := hy.other k1 hgl (by omega) (by omega) (by omega) (by omega) (by omega)
     have B1 : Below w0.heap.size w0 W1 := k1.below hB (by omega) (by omega) (by have := hr.lt; omega)
     have s1 := k1.size
     have hcall2 := ihy w0 W1 g 6 l2 h2 r true hy1 p1 (by omega) (by omega) B1 (by omega) (by omega)
     have u1 := k1.up (b := b) (o := o) (lo := lo) (hi := hi) ⟨hg1, hg2⟩ (by omega) (by omega) hbo hb
     have d6 := h3.keep (W' := W1) (fun j _ => cell_blk (k1.blk b hb (fun e => hgb e.symm) (by omega)) _)
     have d0 := d6.c0
     have d2 := d6.c2
     go_wp2_with fail
     refine hcall2.mono ?_
     rintro e W2 ⟨rfl, py, k2⟩
     clear hcall2 d0 d2
     have px2 : PR w0 W2 (x.read r true) g 0 l1 h1 := px.other k2 p1.lt (by omega) (by omega) (by omega) (by omega) (by omega)
     have u2 := u1.trans (k2.up (b := b) (o := o) (lo := lo) (hi := hi) ⟨hg1, hg2⟩ (by omega) (by omega) hbo (by omega))
     have c6 := d6.keep (W' := W2) (fun j _ => cell_blk (k2.blk b (by omega) (fun e => hgb e.symm) (by omega)) _)
     have hr1 := u2.row b hr
     have hrg1 := u2.row g hrg
     have k2' := c6.c2
     have k4 := c6.c4
     have k5 := c6.c5
     have kf := hr1.frz (o + 4)
     obtain ⟨_, kxe, ka⟩ := px2.tell
     obtain ⟨kyn, kye, kb⟩ := py.tell
     simp only [Nat.zero_add, Nat.reduceAdd] at kxe ka kyn kye kb
     have HPX := hide px2
     have HPY := hide py
     have HFL : Hid ((true && x.nu || x.en) = true) := hide (by simp [hn])
     clear px py px2 ihx ihy hx hy hy1 k1 k2 B1 d6 h3
     have fin : ∀ q, ((y.read r true).en || (x.read r true).en && (y.read r true).nu) = q → AnsB w0 W x y nu en go b o lo hi r true (.returned (.tuple #[])) (W2.setCell ⟨b, o + 4, none⟩ (.bool q)) := by
       rintro q rfl
       refine ⟨rfl, sv, g, kc, l1, h1, l2, h2, W2, hg1, hg2, hrg1, i1, i2, i3, HPX.out, ?_, c6, u2, ?_⟩
       · rw [HFL.out]; exact HPY.out
       · rw [HFL.out]
     have FIN := hide fin
     clear fin
     generalize (y.read r true).en = ey at kye FIN
     generalize (x.read r true).en = ex at kxe FIN
     generalize (y.read r true).nu = yn at kyn FIN
     cases ey with
     | true =>
       go_wp2
       go_end0
       exact FIN.out true rfl
     | false =>
       cases ex with
       | true =>
         go_wp2
         go_end0
         exact FIN.out yn (by simp)
       | false =>
         go_wp2
         go_end0
         exact FIN.out false (by simp)
   | false =>
     rw [hn] at xn
     have hcall1 : ∀ n, Calls Tryz.prog 93 #[.pointer (some ⟨g, 0, none⟩), .int .i32 r, .bool true] (W.drewN n) (AnsRp w0 (W.drewN n) x g 0 l1 h1 r true) := fun n => ihx w0 (W.drewN n) g 0 l1 h1 r true (hx.keep (fun _ _ => rfl) (fun _ _ _ => rfl)) hrg (by omega) (show h1 ≤ W.heap.size by omega) (below_drewN hB n) (by omega) (by omega)
     go_wp2_with fail
     go_quiet (fail)
     go_wp2_with fail
     refine (hcall1 _).mono ?_
     rintro e W1 ⟨rfl, px, k1'⟩
     have k1 : Kr g 0 l1 h1 W W1 := ⟨k1'.os, k1'.tape, k1'.output, k1'.size, k1'.blk, k1'.cell, k1'.row⟩
     clear k1'
     clear hcall1 c0 c2 c4 c5 xn xe
     have p1 := k1.row g hrg
     have hy1 : PR w0 W1 y g 6 l2 h2 := hy.other k1 hgl (by omega) (by omega) (by omega) (by omega) (by omega)
     have B1 : Below w0.heap.size w0 W1 := k1.below hB (by omega) (by omega) (by have := hr.lt; omega)
     have s1 := k1.size
     have hcall2 := ihy w0 W1 g 6 l2 h2 r x.en hy1 p1 (by omega) (by omega) B1 (by omega) (by omega)
     have u1 := k1.up (b := b) (o := o) (lo := lo) (hi := hi) ⟨hg1, hg2⟩ (by omega) (by omega) hbo hb
     have d6 := h3.keep (W' := W1) (fun j _ => cell_blk (k1.blk b hb (fun e => hgb e.symm) (by omega)) _)
     have d0 := d6.c0
     have d2 := d6.c2
     go_wp2_with fail
     refine hcall2.mono ?_
     rintro e W2 ⟨rfl, py, k2⟩
     clear hcall2 d0 d2
     have px2 : PR w0 W2 (x.read r true) g 0 l1 h1 := px.other k2 p1.lt (by omega) (by omega) (by omega) (by omega) (by omega)
     have u2 := u1.trans (k2.up (b := b) (o := o) (lo := lo) (hi := hi) ⟨hg1, hg2⟩ (by omega) (by omega) hbo (by omega))
     have c6 := d6.keep (W' := W2) (fun j _ => cell_blk (k2.blk b (by omega) (fun e => hgb e.symm) (by omega)) _)
     have hr1 := u2.row b hr
     have hrg1 := u2.row g hrg
     have k2' := c6.c2
     have k4 := c6.c4
     have k5 := c6.c5
     have kf := hr1.frz (o + 4)
     obtain ⟨_, kxe, ka⟩ := px2.tell
     obtain ⟨kyn, kye, kb⟩ := py.tell
     simp only [Nat.zero_add, Nat.reduceAdd] at kxe ka kyn kye kb
     have HPX := hide px2
     have HPY := hide py
     have HFL : Hid ((true && x.nu || x.en) = x.en) := hide (by simp [hn])
     clear px py px2 ihx ihy hx hy hy1 k1 k2 B1 d6 h3
     have fin : ∀ q, ((y.read r x.en).en || (x.read r true).en && (y.read r x.en).nu) = q → AnsB w0 W x y nu en go b o lo hi r true (.returned (.tuple #[])) (W2.setCell ⟨b, o + 4, none⟩ (.bool q)) := by
       rintro q rfl
       refine ⟨rfl, sv, g, kc, l1, h1, l2, h2, W2, hg1, hg2, hrg1, i1, i2, i3, HPX.out, ?_, c6, u2, ?_⟩
       · rw [HFL.out]; exact HPY.out
       · rw [HFL.out]
     have FIN := hide fin
     clear fin
     generalize (y.read r x.en).en = ey at kye FIN
     generalize (x.read r true).en = ex at kxe FIN
     generalize (y.read r x.en).nu = yn at kyn FIN
     cases ey with
     | true =>
       go_wp2
       go_end0
       exact FIN.out true rfl
     | false =>
       cases ex with
       | true =>
         go_wp2
         go_end0
         exact FIN.out yn (by simp)
       | false =>
         go_wp2
         go_end0
         exact FIN.out false (by simp)
 | false =>
   have hcall1 : ∀ n, Calls Tryz.prog 93 #[.pointer (some ⟨g, 0, none⟩), .int .i32 r, .bool false] (W.drewN n) (AnsRp w0 (W.drewN n) x g 0 l1 h1 r false) := fun n => ihx w0 (W.drewN n) g 0 l1 h1 r false (hx.keep (fun _ _ => rfl) (fun _ _ _ => rfl)) hrg (by omega) (show h1 ≤ W.heap.size by omega) (below_drewN hB n) (by omega) (by omega)
   go_wp2_with fail
   go_quiet (fail)
   go_wp2_with fail
   refine (hcall1 _).mono ?_
   rintro e W1 ⟨rfl, px, k1'⟩
   have k1 : Kr g 0 l1 h1 W W1 := ⟨k1'.os, k1'.tape, k1'.output, k1'.size, k1'.blk, k1'.cell, k1'.row⟩
   clear k1'
   clear hcall1 c0 c2 c4 c5 xn xe
   have p1 := k1.row g hrg
   have hy1 : PR w0 W1 y g 6 l2 h2 := hy.other k1 hgl (by omega) (by omega) (by omega) (by omega) (by omega)
   have B1 : Below w0.heap.size w0 W1 := k1.below hB (by omega) (by omega) (by have := hr.lt; omega)
   have s1 := k1.size
   have hcall2 := ihy w0 W1 g 6 l2 h2 r x.en hy1 p1 (by omega) (by omega) B1 (by omega) (by omega)
   have u1 := k1.up (b := b) (o := o) (lo := lo) (hi := hi) ⟨hg1, hg2⟩ (by omega) (by omega) hbo hb
   have d6 := h3.keep (W' := W1) (fun j _ => cell_blk (k1.blk b hb (fun e => hgb e.symm) (by omega)) _)
   have d0 := d6.c0
   have d2 := d6.c2
   go_wp2_with fail
   refine hcall2.mono ?_
   rintro e W2 ⟨rfl, py, k2⟩
   clear hcall2 d0 d2
   have px2 : PR w0 W2 (x.read r false) g 0 l1 h1 := px.other k2 p1.lt (by omega) (by omega) (by omega) (by omega) (by omega)
   have u2 := u1.trans (k2.up (b := b) (o := o) (lo := lo) (hi := hi) ⟨hg1, hg2⟩ (by omega) (by omega) hbo (by omega))
   have c6 := d6.keep (W' := W2) (fun j _ => cell_blk (k2.blk b (by omega) (fun e => hgb e.symm) (by omega)) _)
   have hr1 := u2.row b hr
   have hrg1 := u2.row g hrg
   have k2' := c6.c2
   have k4 := c6.c4
   have k5 := c6.c5
   have kf := hr1.frz (o + 4)
   obtain ⟨_, kxe, ka⟩ := px2.tell
   obtain ⟨kyn, kye, kb⟩ := py.tell
   simp only [Nat.zero_add, Nat.reduceAdd] at kxe ka kyn kye kb
   have HPX := hide px2
   have HPY := hide py
   have HFL : Hid ((false && x.nu || x.en) = x.en) := hide (by simp)
   clear px py px2 ihx ihy hx hy hy1 k1 k2 B1 d6 h3
   have fin : ∀ q, ((y.read r x.en).en || (x.read r false).en && (y.read r x.en).nu) = q → AnsB w0 W x y nu en go b o lo hi r false (.returned (.tuple #[])) (W2.setCell ⟨b, o + 4, none⟩ (.bool q)) := by
     rintro q rfl
     refine ⟨rfl, sv, g, kc, l1, h1, l2, h2, W2, hg1, hg2, hrg1, i1, i2, i3, HPX.out, ?_, c6, u2, ?_⟩
     · rw [HFL.out]; exact HPY.out
     · rw [HFL.out]
   have FIN := hide fin
   clear fin
   generalize (y.read r x.en).en = ey at kye FIN
   generalize (x.read r false).en = ex at kxe FIN
   generalize (y.read r x.en).nu = yn at kyn FIN
   cases ey with
   | true =>
     go_wp2
     go_end0
     exact FIN.out true rfl
   | false =>
     cases ex with
     | true =>
       go_wp2
       go_end0
       exact FIN.out yn (by simp)
     | false =>
       go_wp2
       go_end0
       exact FIN.out false (by simp)
set_option maxRecDepth 100000 in
set_option maxHeartbeats 2000000 in
theorem read_cat (w0 W : World) (b o lo hi : Nat) (r : Int) (bg : Bool) (x y : Ps) (nu en go : Bool) (ihx : RdC x) (ihy : RdC y) (h : PR w0 W (.two 4 x y nu en go) b o lo hi) (hc : (!bg && !go) = false) (hr : Row W b) (hbo : b < lo ∨ hi ≤ b) (hhi : hi ≤ W.heap.size) (hB : Below w0.heap.size w0 W) (hlo : w0.heap.size ≤ lo) (hwb : w0.heap.size ≤ b) :
   Calls Tryz.prog 93 #[.pointer (some ⟨b, o, none⟩), .int .i32 r, .bool bg] W (AnsRp w0 W (.two 4 x y nu en go) b o lo hi r bg) := by
 have c05 : W.cell? ⟨b, o, none⟩ = some (.int .i64 4) ∧ W.cell? ⟨b, o + 5, none⟩ = some (.bool go) := by
   unfold PR at h
   obtain ⟨_, sv, g, kc, l1, h1, l2, h2, h3, _⟩ := h
   exact ⟨h3.c0, h3.c5⟩
 obtain ⟨c0, c5⟩ := c05
 have es := elemSize145
 go_enter Tryz.func93, Tryz.ntmps93
 cases bg with
 | true =>
   have hcall := both_any w0 W b o lo hi r true x y nu en go ihx ihy h hr hbo hhi hB hlo hwb
   go_wp2_with fail
   refine hcall.mono ?_
   rintro e W' ⟨rfl, sv', g, kc, l1, h1, l2, h2, W2, hg1, hg2, hrg1, i1, i2, i3, px, py, c6, u2, rfl⟩
   clear hcall c0 c5 h
   have hgb : g ≠ b := by omega
   have hr1 := u2.row b hr
   have k4 := c6.c4
   have k5 := c6.c5
   have ka := px.tell.2.2
   have kb := py.tell.2.2
   simp only [Nat.zero_add, Nat.reduceAdd] at ka kb
   have HRD : Hid ((Ps.two 4 x y nu en go).read r true = .two 4 (x.read r true) (y.read r (true && x.nu || x.en)) nu ((y.read r (true && x.nu || x.en)).en || (x.read r true).en && (y.read r (true && x.nu || x.en)).nu) (((y.read r (true && x.nu || x.en)).en || (x.read r true).en && (y.read r (true && x.nu || x.en)).nu) || (x.read r true).go || (y.read r (true && x.nu || x.en)).go)) := hide (by simp [Ps.read])
   have HPX := hide px
   have HPY := hide py
   clear px py ihx ihy
   generalize ((y.read r (true && x.nu || x.en)).en || (x.read r true).en && (y.read r (true && x.nu || x.en)).nu) = en1 at HRD ⊢
   generalize (x.read r true).go = ga at HRD ka
   generalize (y.read r (true && x.nu || x.en)).go = gb at HRD kb
   have T1 := (Top.refl k4 k5).set4 en1
   have T2 := T1.set5 en1
   have z4 := T1.c4
   have z5 := T1.c5
   have z2 := (T1.c6 c6).c2
   have zf := (T1.row b hr1).frz (o + 5)
   have y5 := T2.c5
   have y2 := (T2.c6 c6).c2
   have yf := (T2.row b hr1).frz (o + 5)
   have yk := (cell_blk (T2.blk g hgb) 5).trans ka
   obtain ⟨e1, HE1⟩ : ∃ e1, Hid ((en1 || ga) = e1) := ⟨_, hide rfl⟩
   have T3 := T2.set5 e1
   have x5 := T3.c5
   have x2 := (T3.c6 c6).c2
   have xf := (T3.row b hr1).frz (o + 5)
   have xk := (cell_blk (T3.blk g hgb) 11).trans kb
   obtain ⟨e2, HE2⟩ : ∃ e2, Hid ((e1 || gb) = e2) := ⟨_, hide rfl⟩
   have T4 := T3.set5 e2
   have w5 := T4.c5
   have w2 := (T4.c6 c6).c2
   have wf := (T4.row b hr1).frz (o + 5)
   have FIN : Hid (AnsRp w0 W (.two 4 x y nu en go) b o lo hi r true (.returned (.tuple #[])) ((((W2.setCell ⟨b, o + 4, none⟩ (.bool en1)).setCell ⟨b, o + 5, none⟩ (.bool en1)).setCell ⟨b, o + 5, none⟩ (.bool e1)).setCell ⟨b, o + 5, none⟩ (.bool e2))) := hide (p := AnsRp w0 W (.two 4 x y nu en go) b o lo hi r true (.returned (.tuple #[])) ((((W2.setCell ⟨b, o + 4, none⟩ (.bool en1)).setCell ⟨b, o + 5, none⟩ (.bool en1)).setCell ⟨b, o + 5, none⟩ (.bool e1)).setCell ⟨b, o + 5, none⟩ (.bool e2))) ⟨rfl, by rw [HRD.out]; exact pr_two (by omega) (by rw [HE1.out, HE2.out]; exact T4.c6 c6) hg1 hg2 (T4.row g hrg1) (T4.kid HPX.out hbo ⟨hg1, hg2⟩ i1.1 (by omega)) (T4.kid HPY.out hbo ⟨hg1, hg2⟩ i2.1 (by omega)) i1 i2 i3, u2.trans T4.kr⟩
   clear T1 T2 c6 T3 T4
   go_wp2
   go_loopw [139] (fun u wr => (u = .int .i64 0 ∧ wr = ((W2.setCell ⟨b, o + 4, none⟩ (.bool en1)).setCell ⟨b, o + 5, none⟩ (.bool en1))) ∨ (u = .int .i64 1 ∧ wr = (((W2.setCell ⟨b, o + 4, none⟩ (.bool en1)).setCell ⟨b, o + 5, none⟩ (.bool en1)).setCell ⟨b, o + 5, none⟩ (.bool e1))) ∨ (u = .int .i64 2 ∧ wr = ((((W2.setCell ⟨b, o + 4, none⟩ (.bool en1)).setCell ⟨b, o + 5, none⟩ (.bool en1)).setCell ⟨b, o + 5, none⟩ (.bool e1)).setCell ⟨b, o + 5, none⟩ (.bool e2)))) (fun u _ => 2 - (intOf u).toNat)
   case atStart => exact .inl ⟨rfl, rfl⟩
   case round =>
     rcases hrel with ⟨rfl, rfl⟩ | ⟨rfl, rfl⟩ | ⟨rfl, rfl⟩
     · clear FIN
       cases en1 with
       | true =>
         go_wp2
         go_roundw
         case rel => exact .inr (.inl ⟨rfl, by rw [← HE1.out]; rfl⟩)
         case measure => simp [intOf]
       | false =>
         go_wp2
         go_roundw
         case rel => exact .inr (.inl ⟨rfl, by rw [← HE1.out]; rfl⟩)
         case measure => simp [intOf]
     · clear FIN
       cases e1 with
       | true =>
         go_wp2
         go_roundw
         case rel => exact .inr (.inr ⟨rfl, by rw [← HE2.out]; rfl⟩)
         case measure => simp [intOf]
       | false =>
         go_wp2
         go_roundw
         case rel => exact .inr (.inr ⟨rfl, by rw [← HE2.out]; rfl⟩)
         case measure => simp [intOf]
     · go_wp2
       go_end0
       exact FIN.out
 | false =>
   obtain rfl : go = true := by simpa using hc
   have hcall := both_any w0 W b o lo hi r false x y nu en true ihx ihy h hr hbo hhi hB hlo hwb
   go_wp2_with fail
   refine hcall.mono ?_
   rintro e W' ⟨rfl, sv', g, kc, l1, h1, l2, h2, W2, hg1, hg2, hrg1, i1, i2, i3, px, py, c6, u2, rfl⟩
   clear hcall c0 c5 h
   have hgb : g ≠ b := by omega
   have hr1 := u2.row b hr
   have k4 := c6.c4
   have k5 := c6.c5
   have ka := px.tell.2.2
   have kb := py.tell.2.2
   simp only [Nat.zero_add, Nat.reduceAdd] at ka kb
   have HRD : Hid ((Ps.two 4 x y nu en true).read r false = .two 4 (x.read r false) (y.read r (false && x.nu || x.en)) nu ((y.read r (false && x.nu || x.en)).en || (x.read r false).en && (y.read r (false && x.nu || x.en)).nu) (((y.read r (false && x.nu || x.en)).en || (x.read r false).en && (y.read r (false && x.nu || x.en)).nu) || (x.read r false).go || (y.read r (false && x.nu || x.en)).go)) := hide (by simp [Ps.read])
   have HPX := hide px
   have HPY := hide py
   clear px py ihx ihy
   generalize ((y.read r (false && x.nu || x.en)).en || (x.read r false).en && (y.read r (false && x.nu || x.en)).nu) = en1 at HRD ⊢
   generalize (x.read r false).go = ga at HRD ka
   generalize (y.read r (false && x.nu || x.en)).go = gb at HRD kb
   have T1 := (Top.refl k4 k5).set4 en1
   have T2 := T1.set5 en1
   have z4 := T1.c4
   have z5 := T1.c5
   have z2 := (T1.c6 c6).c2
   have zf := (T1.row b hr1).frz (o + 5)
   have y5 := T2.c5
   have y2 := (T2.c6 c6).c2
   have yf := (T2.row b hr1).frz (o + 5)
   have yk := (cell_blk (T2.blk g hgb) 5).trans ka
   obtain ⟨e1, HE1⟩ : ∃ e1, Hid ((en1 || ga) = e1) := ⟨_, hide rfl⟩
   have T3 := T2.set5 e1
   have x5 := T3.c5
   have x2 := (T3.c6 c6).c2
   have xf := (T3.row b hr1).frz (o + 5)
   have xk := (cell_blk (T3.blk g hgb) 11).trans kb
   obtain ⟨e2, HE2⟩ : ∃ e2, Hid ((e1 || gb) = e2) := ⟨_, hide rfl⟩
   have T4 := T3.set5 e2
   have w5 := T4.c5
   have w2 := (T4.c6 c6).c2
   have wf := (T4.row b hr1).frz (o + 5)
   have FIN : Hid (AnsRp w0 W (.two 4 x y nu en true) b o lo hi r false (.returned (.tuple #[])) ((((W2.setCell ⟨b, o + 4, none⟩ (.bool en1)).setCell ⟨b, o + 5, none⟩ (.bool en1)).setCell ⟨b, o + 5, none⟩ (.bool e1)).setCell ⟨b, o + 5, none⟩ (.bool e2))) := hide (p := AnsRp w0 W (.two 4 x y nu en true) b o lo hi r false (.returned (.tuple #[])) ((((W2.setCell ⟨b, o + 4, none⟩ (.bool en1)).setCell ⟨b, o + 5, none⟩ (.bool en1)).setCell ⟨b, o + 5, none⟩ (.bool e1)).setCell ⟨b, o + 5, none⟩ (.bool e2))) ⟨rfl, by rw [HRD.out]; exact pr_two (by omega) (by rw [HE1.out, HE2.out]; exact T4.c6 c6) hg1 hg2 (T4.row g hrg1) (T4.kid HPX.out hbo ⟨hg1, hg2⟩ i1.1 (by omega)) (T4.kid HPY.out hbo ⟨hg1, hg2⟩ i2.1 (by omega)) i1 i2 i3, u2.trans T4.kr⟩
   clear T1 T2 c6 T3 T4
   go_wp2
   go_loopw [139] (fun u wr => (u = .int .i64 0 ∧ wr = ((W2.setCell ⟨b, o + 4, none⟩ (.bool en1)).setCell ⟨b, o + 5, none⟩ (.bool en1))) ∨ (u = .int .i64 1 ∧ wr = (((W2.setCell ⟨b, o + 4, none⟩ (.bool en1)).setCell ⟨b, o + 5, none⟩ (.bool en1)).setCell ⟨b, o + 5, none⟩ (.bool e1))) ∨ (u = .int .i64 2 ∧ wr = ((((W2.setCell ⟨b, o + 4, none⟩ (.bool en1)).setCell ⟨b, o + 5, none⟩ (.bool en1)).setCell ⟨b, o + 5, none⟩ (.bool e1)).setCell ⟨b, o + 5, none⟩ (.bool e2)))) (fun u _ => 2 - (intOf u).toNat)
   case atStart => exact .inl ⟨rfl, rfl⟩
   case round =>
     rcases hrel with ⟨rfl, rfl⟩ | ⟨rfl, rfl⟩ | ⟨rfl, rfl⟩
     · clear FIN
       cases en1 with
       | true =>
         go_wp2
         go_roundw
         case rel => exact .inr (.inl ⟨rfl, by rw [← HE1.out]; rfl⟩)
         case measure => simp [intOf]
       | false =>
         go_wp2
         go_roundw
         case rel => exact .inr (.inl ⟨rfl, by rw [← HE1.out]; rfl⟩)
         case measure => simp [intOf]
     · clear FIN
       cases e1 with
       | true =>
         go_wp2
         go_roundw
         case rel => exact .inr (.inr ⟨rfl, by rw [← HE2.out]; rfl⟩)
         case measure => simp [intOf]
       | false =>
         go_wp2
         go_roundw
         case rel => exact .inr (.inr ⟨rfl, by rw [← HE2.out]; rfl⟩)
         case measure => simp [intOf]
     · go_wp2
       go_end0
       exact FIN.out
theorem readP_any : ∀ p : Ps, RdC p
 | .leaf k s nu en go => by
   intro w0 W b o lo hi r bg h hr hbo hhi hB hlo hwb
   by_cases hc : (!bg && !go) = true
   · obtain ⟨rfl, rfl⟩ : bg = false ∧ go = false := by simpa using hc
     refine (read_skip W b o r h.tell.2.2).mono ?_
     rintro e W' ⟨rfl, rfl⟩
     exact ⟨rfl, by rw [Ps.read, if_pos hc]; exact h, Kr.refl _ _ _ _ _⟩
   · have hc' : (!bg && !go) = false := by simpa using hc
     have hk : k = 1 ∨ k = 3 := by unfold PR at h; exact h.1
     rcases hk with rfl | rfl
     · cases bg with
       | true => exact read_set1 w0 W b o lo hi r s nu en go h hr hbo hhi hB hlo hwb
       | false =>
         obtain rfl : go = true := by simpa using hc'
         exact read_set2 w0 W b o lo hi r s nu en h hr hbo hhi hB hlo hwb
     · exact read_none w0 W b o lo hi r bg s nu en go h hc' hr hbo hhi hB hlo hwb
 | .one k a nu en go => by
   intro w0 W b o lo hi r bg h hr hbo hhi hB hlo hwb
   by_cases hc : (!bg && !go) = true
   · obtain ⟨rfl, rfl⟩ : bg = false ∧ go = false := by simpa using hc
     refine (read_skip W b o r h.tell.2.2).mono ?_
     rintro e W' ⟨rfl, rfl⟩
     exact ⟨rfl, by rw [Ps.read, if_pos hc]; exact h, Kr.refl _ _ _ _ _⟩
   · have hc' : (!bg && !go) = false := by simpa using hc
     have hk : k = 6 ∨ k = 7 ∨ k = 8 := by unfold PR at h; exact h.1
     rcases hk with rfl | rfl | rfl
     · exact read_one6 w0 W b o lo hi r bg a nu en go (readP_any a) h hc' hr hbo hhi hB hlo hwb
     · exact read_one7 w0 W b o lo hi r bg a nu en go (readP_any a) h hc' hr hbo hhi hB hlo hwb
     · exact read_one8 w0 W b o lo hi r bg a nu en go (readP_any a) h hc' hr hbo hhi hB hlo hwb
 | .two k x y nu en go => by
   intro w0 W b o lo hi r bg h hr hbo hhi hB hlo hwb
   by_cases hc : (!bg && !go) = true
   · obtain ⟨rfl, rfl⟩ : bg = false ∧ go = false := by simpa using hc
     refine (read_skip W b o r h.tell.2.2).mono ?_
     rintro e W' ⟨rfl, rfl⟩
     exact ⟨rfl, by rw [Ps.read, if_pos hc]; exact h, Kr.refl _ _ _ _ _⟩
   · have hc' : (!bg && !go) = false := by simpa using hc
     have hk : k = 4 ∨ k = 5 := by unfold PR at h; exact h.1
     rcases hk with rfl | rfl
     · exact read_cat w0 W b o lo hi r bg x y nu en go (readP_any x) (readP_any y) h hc' hr hbo hhi hB hlo hwb
     · exact read_alt w0 W b o lo hi r bg x y nu en go (readP_any x) (readP_any y) h hc' hr hbo hhi hB hlo hwb
end Go.Proofs.YtemanednddhfaaaGreatDoor
