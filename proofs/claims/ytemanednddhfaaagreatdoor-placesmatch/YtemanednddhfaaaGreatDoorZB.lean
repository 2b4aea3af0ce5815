/- PlacesMatch. -/
import Derived.Test.YtemanednddhfaaaGreatDoorZA
import Derived.Test.YtemanednddhfaaaGreatDoorItr
import Derived.Test.YtemanednddhfaaaGreatDoorNds
import Derived.Test.YtemanednddhfaaaGreatDoorNml
import Derived.Test.YtemanednddhfaaaGreatDoorIss
namespace Go.Proofs.YtemanednddhfaaaGreatDoor
open Go.RowKit
open E (Ps Rx)
attribute [local go_sem] Oper.semAt_some
set_option maxRecDepth 100000 in
set_option maxHeartbeats 2000000 in
theorem read_set1 (w0 W : World) (b o lo hi : Nat) (r : Int) (s : List (Int × Int)) (nu en go : Bool) (h : PR w0 W (.leaf 1 s nu en go) b o lo hi) (hr : Row W b) (_hbo : b < lo ∨ hi ≤ b) (_hhi : hi ≤ W.heap.size) (hB : Below w0.heap.size w0 W) (_hlo : w0.heap.size ≤ lo) (_hwb : w0.heap.size ≤ b) :
   Calls Tryz.prog 93 #[.pointer (some ⟨b, o, none⟩), .int .i32 r, .bool true] W (AnsRp w0 W (.leaf 1 s nu en go) b o lo hi r true) := by
 unfold PR at h
 obtain ⟨_, h2, sp, sc, kp, kc, h3, h4⟩ := h
 have c0 := h3.c0
 have c1 := h3.c1
 have c4 := h3.c4
 have c5 := h3.c5
 have f4 := hr.frz (o + 4)
 have hb := hr.lt
 have hhas := U.has_any sp sc s r h2 W (h4.later hB)
 go_enter Tryz.func93, Tryz.ntmps93
 go_wp2_with fail
 refine hhas.mono ?_
 rintro e W1 ⟨rfl, hb1⟩
 have kr1 := Kr.of (b := b) (o := o) (lo := lo) (hi := hi) hb1 hb
 have c6 := h3.keep (W' := W1) (fun j _ => cell_blk (hb1.block b hb) _)
 have hr1 := kr1.row b hr
 have k4 := c6.c4
 have k5 := c6.c5
 have kf := hr1.frz (o + 4)
 have HRD : Hid ((Ps.leaf 1 s nu en go).read r true = .leaf 1 s nu (E.inS s r) (E.inS s r)) := hide (by simp [Ps.read])
 have HIN : Hid (E.inS s r = _) := hide (inS_eq s r)
 generalize hq : E.inS s r = en1 at HRD HIN
 rw [← HIN.out]
 have T1 := (Top.refl k4 k5).set4 en1
 clear hhas c0 c1 c4 c5 f4 hq HIN
 have T2 := T1.set5 en1
 have z4 := T1.c4
 have z5 := T1.c5
 have z2 := (T1.c6 c6).c2
 have zf := (T1.row b hr1).frz (o + 5)
 have y5 := T2.c5
 have y2 := (T2.c6 c6).c2
 have yf := (T2.row b hr1).frz (o + 5)
 have FIN : Hid (AnsRp w0 W (.leaf 1 s nu en go) b o lo hi r true (.returned (.tuple #[])) ((W1.setCell ⟨b, o + 4, none⟩ (.bool en1)).setCell ⟨b, o + 5, none⟩ (.bool en1))) := hide (p := AnsRp w0 W (.leaf 1 s nu en go) b o lo hi r true (.returned (.tuple #[])) ((W1.setCell ⟨b, o + 4, none⟩ (.bool en1)).setCell ⟨b, o + 5, none⟩ (.bool en1))) ⟨rfl, by rw [HRD.out]; exact pr_leaf (.inl rfl) h2 (T2.c6 c6) h4, kr1.trans T2.kr⟩
 clear T1 T2 c6
 go_wp2
 go_loopw [139] (fun u wr => u = .int .i64 0 ∧ wr = ((W1.setCell ⟨b, o + 4, none⟩ (.bool en1)).setCell ⟨b, o + 5, none⟩ (.bool en1))) (fun _ _ => 0)
 case atStart => exact ⟨rfl, rfl⟩
 case round =>
   obtain ⟨rfl, rfl⟩ := hrel
   go_wp2
   go_end0
   exact FIN.out
set_option maxRecDepth 100000 in
set_option maxHeartbeats 2000000 in
theorem read_set2 (w0 W : World) (b o lo hi : Nat) (r : Int) (s : List (Int × Int)) (nu en : Bool) (h : PR w0 W (.leaf 1 s nu en true) b o lo hi) (hr : Row W b) (_hbo : b < lo ∨ hi ≤ b) (_hhi : hi ≤ W.heap.size) (_hB : Below w0.heap.size w0 W) (_hlo : w0.heap.size ≤ lo) (_hwb : w0.heap.size ≤ b) :
   Calls Tryz.prog 93 #[.pointer (some ⟨b, o, none⟩), .int .i32 r, .bool false] W (AnsRp w0 W (.leaf 1 s nu en true) b o lo hi r false) := by
 unfold PR at h
 obtain ⟨_, h2, sp, sc, kp, kc, h3, h4⟩ := h
 have c0 := h3.c0
 have c1 := h3.c1
 have c4 := h3.c4
 have c5 := h3.c5
 have f4 := hr.frz (o + 4)
 have hb := hr.lt
 have HRD : Hid ((Ps.leaf 1 s nu en true).read r false = .leaf 1 s nu false false) := hide (by simp [Ps.read])
 have c6 := h3
 have hr1 := hr
 have T1 := (Top.refl c4 c5).set4 false
 go_enter Tryz.func93, Tryz.ntmps93
 have T2 := T1.set5 false
 have z4 := T1.c4
 have z5 := T1.c5
 have z2 := (T1.c6 c6).c2
 have zf := (T1.row b hr1).frz (o + 5)
 have y5 := T2.c5
 have y2 := (T2.c6 c6).c2
 have yf := (T2.row b hr1).frz (o + 5)
 have FIN : Hid (AnsRp w0 W (.leaf 1 s nu en true) b o lo hi r false (.returned (.tuple #[])) ((W.setCell ⟨b, o + 4, none⟩ (.bool false)).setCell ⟨b, o + 5, none⟩ (.bool false))) := hide (p := AnsRp w0 W (.leaf 1 s nu en true) b o lo hi r false (.returned (.tuple #[])) ((W.setCell ⟨b, o + 4, none⟩ (.bool false)).setCell ⟨b, o + 5, none⟩ (.bool false))) ⟨rfl, by rw [HRD.out]; exact pr_leaf (.inl rfl) h2 (T2.c6 c6) h4, T2.kr⟩
 clear T1 T2 c6
 go_wp2
 go_loopw [139] (fun u wr => u = .int .i64 0 ∧ wr = ((W.setCell ⟨b, o + 4, none⟩ (.bool false)).setCell ⟨b, o + 5, none⟩ (.bool false))) (fun _ _ => 0)
 case atStart => exact ⟨rfl, rfl⟩
 case round =>
   obtain ⟨rfl, rfl⟩ := hrel
   go_wp2
   go_end0
   exact FIN.out
set_option maxRecDepth 100000 in
set_option maxHeartbeats 2000000 in
theorem read_none (w0 W : World) (b o lo hi : Nat) (r : Int) (bg : Bool) (s : List (Int × Int)) (nu en go : Bool) (h : PR w0 W (.leaf 3 s nu en go) b o lo hi) (hc : (!bg && !go) = false) (hr : Row W b) (_hbo : b < lo ∨ hi ≤ b) (_hhi : hi ≤ W.heap.size) (_hB : Below w0.heap.size w0 W) (_hlo : w0.heap.size ≤ lo) (_hwb : w0.heap.size ≤ b) :
   Calls Tryz.prog 93 #[.pointer (some ⟨b, o, none⟩), .int .i32 r, .bool bg] W (AnsRp w0 W (.leaf 3 s nu en go) b o lo hi r bg) := by
 unfold PR at h
 obtain ⟨_, h2, sp, sc, kp, kc, h3, h4⟩ := h
 have c0 := h3.c0
 have c1 := h3.c1
 have c4 := h3.c4
 have c5 := h3.c5
 have f4 := hr.frz (o + 4)
 have hb := hr.lt
 have HRD : Hid ((Ps.leaf 3 s nu en go).read r bg = .leaf 3 s nu en en) := hide (by simp [Ps.read, hc])
 have c6 := h3
 have hr1 := hr
 have T1 := Top.refl c4 c5
 go_enter Tryz.func93, Tryz.ntmps93
 cases bg with
 | true =>
   have T2 := T1.set5 en
   have z4 := T1.c4
   have z5 := T1.c5
   have z2 := (T1.c6 c6).c2
   have zf := (T1.row b hr1).frz (o + 5)
   have y5 := T2.c5
   have y2 := (T2.c6 c6).c2
   have yf := (T2.row b hr1).frz (o + 5)
   have FIN : Hid (AnsRp w0 W (.leaf 3 s nu en go) b o lo hi r true (.returned (.tuple #[])) (W.setCell ⟨b, o + 5, none⟩ (.bool en))) := hide (p := AnsRp w0 W (.leaf 3 s nu en go) b o lo hi r true (.returned (.tuple #[])) (W.setCell ⟨b, o + 5, none⟩ (.bool en))) ⟨rfl, by rw [HRD.out]; exact pr_leaf (.inr rfl) h2 (T2.c6 c6) h4, T2.kr⟩
   clear T1 T2 c6
   go_wp2
   go_loopw [139] (fun u wr => u = .int .i64 0 ∧ wr = (W.setCell ⟨b, o + 5, none⟩ (.bool en))) (fun _ _ => 0)
   case atStart => exact ⟨rfl, rfl⟩
   case round =>
     obtain ⟨rfl, rfl⟩ := hrel
     go_wp2
     go_end0
     exact FIN.out
 | false =>
   obtain rfl : go = true := by simpa using hc
   have T2 := T1.set5 en
   have z4 := T1.c4
   have z5 := T1.c5
   have z2 := (T1.c6 c6).c2
   have zf := (T1.row b hr1).frz (o + 5)
   have y5 := T2.c5
   have y2 := (T2.c6 c6).c2
   have yf := (T2.row b hr1).frz (o + 5)
   have FIN : Hid (AnsRp w0 W (.leaf 3 s nu en true) b o lo hi r false (.returned (.tuple #[])) (W.setCell ⟨b, o + 5, none⟩ (.bool en))) := hide (p := AnsRp w0 W (.leaf 3 s nu en true) b o lo hi r false (.returned (.tuple #[])) (W.setCell ⟨b, o + 5, none⟩ (.bool en))) ⟨rfl, by rw [HRD.out]; exact pr_leaf (.inr rfl) h2 (T2.c6 c6) h4, T2.kr⟩
   clear T1 T2 c6
   go_wp2
   go_loopw [139] (fun u wr => u = .int .i64 0 ∧ wr = (W.setCell ⟨b, o + 5, none⟩ (.bool en))) (fun _ _ => 0)
   case atStart => exact ⟨rfl, rfl⟩
   case round =>
     obtain ⟨rfl, rfl⟩ := hrel
     go_wp2
     go_end0
     exact FIN.out
def RdC (p : Ps) : Prop := ∀ (w0 W : World) (b o lo hi : Nat) (r : Int) (bg : Bool), PR w0 W p b o lo hi → Row W b → (b < lo ∨ hi ≤ b) → hi ≤ W.heap.size → Below w0.heap.size w0 W → w0.heap.size ≤ lo → w0.heap.size ≤ b → Calls Tryz.prog 93 #[.pointer (some ⟨b, o, none⟩), .int .i32 r, .bool bg] W (AnsRp w0 W p b o lo hi r bg)
set_option maxRecDepth 100000 in
set_option maxHeartbeats 2000000 in
theorem read_one8 (w0 W : World) (b o lo hi : Nat) (r : Int) (bg : Bool) (a : Ps) (nu en go : Bool) (ih : RdC a) (h : PR w0 W (.one 8 a nu en go) b o lo hi) (hc : (!bg && !go) = false) (hr : Row W b) (hbo : b < lo ∨ hi ≤ b) (_hhi : hi ≤ W.heap.size) (hB : Below w0.heap.size w0 W) (hlo : w0.heap.size ≤ lo) (_hwb : w0.heap.size ≤ b) :
   Calls Tryz.prog 93 #[.pointer (some ⟨b, o, none⟩), .int .i32 r, .bool bg] W (AnsRp w0 W (.one 8 a nu en go) b o lo hi r bg) := by
 unfold PR at h
 obtain ⟨_, sv, g, kc, h3, hg1, hg2, hrg, ha⟩ := h
 have c0 := h3.c0
 have c2 := h3.c2
 have c4 := h3.c4
 have c5 := h3.c5
 have hb := hr.lt
 have hgb : g ≠ b := by omega
 have es := elemSize145
 have hcall := fun f => ih w0 W g 0 lo g r f ha hrg (.inr (Nat.le_refl g)) (Nat.le_of_lt hrg.lt) hB hlo (by omega)
 go_enter Tryz.func93, Tryz.ntmps93
 cases bg with
 | true =>
   replace hcall := hcall true
   go_wp2_with fail
   refine hcall.mono ?_
   rintro e W1 ⟨rfl, hpa, hka⟩
   have kr1 := hka.up (b := b) (o := o) (lo := lo) (hi := hi) ⟨hg1, hg2⟩ (Nat.le_refl _) (Nat.le_of_lt hg2) hbo hb
   have c6 := h3.keep (W' := W1) (fun j _ => cell_blk (hka.blk b hb (fun e => hgb e.symm) (by omega)) _)
   have hr1 := kr1.row b hr
   have hrg1 := hka.row g hrg
   have k2 := c6.c2
   have k4 := c6.c4
   have k5 := c6.c5
   have kf := hr1.frz (o + 4)
   have HRD : Hid ((Ps.one 8 a nu en go).read r true = .one 8 (a.read r true) nu (a.read r true).en ((a.read r true).en || (a.read r true).go)) := hide (by simp [Ps.read])
   obtain ⟨_, ke, ka⟩ := hpa.tell
   simp only [Nat.zero_add] at ke ka
   have HPA := hide hpa
   clear hpa hcall c0 c2 c4 c5 hka ih ha h3
   generalize (a.read r true).en = en1 at HRD ke
   generalize (a.read r true).go = ga at HRD ka
   have T1 := (Top.refl k4 k5).set4 en1
   have T2 := T1.set5 en1
   have z4 := T1.c4
   have z5 := T1.c5
   have z2 := (T1.c6 c6).c2
   have zf := (T1.row b hr1).frz (o + 5)
   have y5 := T2.c5
   have y2 := (T2.c6 c6).c2
   have yf := (T2.row b hr1).frz (o + 5)
   have yk := (cell_blk (T2.blk g hgb) 5).trans ka
   obtain ⟨e1, HE1⟩ : ∃ e1, Hid ((en1 || ga) = e1) := ⟨_, hide rfl⟩
   have T3 := T2.set5 e1
   have x5 := T3.c5
   have x2 := (T3.c6 c6).c2
   have xf := (T3.row b hr1).frz (o + 5)
   have FIN : Hid (AnsRp w0 W (.one 8 a nu en go) b o lo hi r true (.returned (.tuple #[])) (((W1.setCell ⟨b, o + 4, none⟩ (.bool en1)).setCell ⟨b, o + 5, none⟩ (.bool en1)).setCell ⟨b, o + 5, none⟩ (.bool e1))) := hide (p := AnsRp w0 W (.one 8 a nu en go) b o lo hi r true (.returned (.tuple #[])) (((W1.setCell ⟨b, o + 4, none⟩ (.bool en1)).setCell ⟨b, o + 5, none⟩ (.bool en1)).setCell ⟨b, o + 5, none⟩ (.bool e1))) ⟨rfl, by rw [HRD.out]; exact pr_one (by omega) (by first | (rw [HE1.out]; exact T3.c6 c6) | exact T3.c6 c6) hg1 hg2 (T3.row g hrg1) (T3.kid HPA.out hbo ⟨hg1, hg2⟩ (Nat.le_refl _) (Nat.le_of_lt hg2)), kr1.trans T3.kr⟩
   clear T1 T2 c6 T3
   go_wp2
   go_loopw [139] (fun u wr => (u = .int .i64 0 ∧ wr = ((W1.setCell ⟨b, o + 4, none⟩ (.bool en1)).setCell ⟨b, o + 5, none⟩ (.bool en1))) ∨ (u = .int .i64 1 ∧ wr = (((W1.setCell ⟨b, o + 4, none⟩ (.bool en1)).setCell ⟨b, o + 5, none⟩ (.bool en1)).setCell ⟨b, o + 5, none⟩ (.bool e1)))) (fun u _ => 1 - (intOf u).toNat)
   case atStart => exact .inl ⟨rfl, rfl⟩
   case round =>
     rcases hrel with ⟨rfl, rfl⟩ | ⟨rfl, rfl⟩
     · clear FIN
       cases en1 with
       | true =>
         go_wp2
         go_roundw
         case rel => exact .inr ⟨rfl, by rw [← HE1.out]; rfl⟩
         case measure => simp [intOf]
       | false =>
         go_wp2
         go_roundw
         case rel => exact .inr ⟨rfl, by rw [← HE1.out]; rfl⟩
         case measure => simp [intOf]
     · go_wp2
       go_end0
       exact FIN.out
 | false =>
   obtain rfl : go = true := by simpa using hc
   replace hcall := hcall false
   go_wp2_with fail
   refine hcall.mono ?_
   rintro e W1 ⟨rfl, hpa, hka⟩
   have kr1 := hka.up (b := b) (o := o) (lo := lo) (hi := hi) ⟨hg1, hg2⟩ (Nat.le_refl _) (Nat.le_of_lt hg2) hbo hb
   have c6 := h3.keep (W' := W1) (fun j _ => cell_blk (hka.blk b hb (fun e => hgb e.symm) (by omega)) _)
   have hr1 := kr1.row b hr
   have hrg1 := hka.row g hrg
   have k2 := c6.c2
   have k4 := c6.c4
   have k5 := c6.c5
   have kf := hr1.frz (o + 4)
   have HRD : Hid ((Ps.one 8 a nu en true).read r false = .one 8 (a.read r false) nu (a.read r false).en ((a.read r false).en || (a.read r false).go)) := hide (by simp [Ps.read])
   obtain ⟨_, ke, ka⟩ := hpa.tell
   simp only [Nat.zero_add] at ke ka
   have HPA := hide hpa
   clear hpa hcall c0 c2 c4 c5 hka ih ha h3
   generalize (a.read r false).en = en1 at HRD ke
   generalize (a.read r false).go = ga at HRD ka
   have T1 := (Top.refl k4 k5).set4 en1
   have T2 := T1.set5 en1
   have z4 := T1.c4
   have z5 := T1.c5
   have z2 := (T1.c6 c6).c2
   have zf := (T1.row b hr1).frz (o + 5)
   have y5 := T2.c5
   have y2 := (T2.c6 c6).c2
   have yf := (T2.row b hr1).frz (o + 5)
   have yk := (cell_blk (T2.blk g hgb) 5).trans ka
   obtain ⟨e1, HE1⟩ : ∃ e1, Hid ((en1 || ga) = e1) := ⟨_, hide rfl⟩
   have T3 := T2.set5 e1
   have x5 := T3.c5
   have x2 := (T3.c6 c6).c2
   have xf := (T3.row b hr1).frz (o + 5)
   have FIN : Hid (AnsRp w0 W (.one 8 a nu en true) b o lo hi r false (.returned (.tuple #[])) (((W1.setCell ⟨b, o + 4, none⟩ (.bool en1)).setCell ⟨b, o + 5, none⟩ (.bool en1)).setCell ⟨b, o + 5, none⟩ (.bool e1))) := hide (p := AnsRp w0 W (.one 8 a nu en true) b o lo hi r false (.returned (.tuple #[])) (((W1.setCell ⟨b, o + 4, none⟩ (.bool en1)).setCell ⟨b, o + 5, none⟩ (.bool en1)).setCell ⟨b, o + 5, none⟩ (.bool e1))) ⟨rfl, by rw [HRD.out]; exact pr_one (by omega) (by first | (rw [HE1.out]; exact T3.c6 c6) | exact T3.c6 c6) hg1 hg2 (T3.row g hrg1) (T3.kid HPA.out hbo ⟨hg1, hg2⟩ (Nat.le_refl _) (Nat.le_of_lt hg2)), kr1.trans T3.kr⟩
   clear T1 T2 c6 T3
   go_wp2
   go_loopw [139] (fun u wr => (u = .int .i64 0 ∧ wr = ((W1.setCell ⟨b, o + 4, none⟩ (.bool en1)).setCell ⟨b, o + 5, none⟩ (.bool en1))) ∨ (u = .int .i64 1 ∧ wr = (((W1.setCell ⟨b, o + 4, none⟩ (.bool en1)).setCell ⟨b, o + 5, none⟩ (.bool en1)).setCell ⟨b, o + 5, none⟩ (.bool e1)))) (fun u _ => 1 - (intOf u).toNat)
   case atStart => exact .inl ⟨rfl, rfl⟩
   case round =>
     rcases hrel with ⟨rfl, rfl⟩ | ⟨rfl, rfl⟩
     · clear FIN
       cases en1 with
       | true =>
         go_wp2
         go_roundw
         case rel => exact .inr ⟨rfl, by rw [← HE1.out]; rfl⟩
         case measure => simp [intOf]
       | false =>
         go_wp2
         go_roundw
         case rel => exact .inr ⟨rfl, by rw [← HE1.out]; rfl⟩
         case measure => simp [intOf]
     · go_wp2
       go_end0
       exact FIN.out
set_option maxRecDepth 100000 in
set_option maxHeartbeats 2000000 in
theorem read_one6 (w0 W : World) (b o lo hi : Nat) (r : Int) (bg : Bool) (a : Ps) (nu en go : Bool) (ih : RdC a) (h : PR w0 W (.one 6 a nu en go) b o lo hi) (hc : (!bg && !go) = false) (hr : Row W b) (hbo : b < lo ∨ hi ≤ b) (_hhi : hi ≤ W.heap.size) (hB : Below w0.heap.size w0 W) (hlo : w0.heap.size ≤ lo) (_hwb : w0.heap.size ≤ b) :
   Calls Tryz.prog 93 #[.pointer (some ⟨b, o, none⟩), .int .i32 r, .bool bg] W (AnsRp w0 W (.one 6 a nu en go) b o lo hi r bg) := by
 unfold PR at h
 obtain ⟨_, sv, g, kc, h3, hg1, hg2, hrg, ha⟩ := h
 have c0 := h3.c0
 have c2 := h3.c2
 have c4 := h3.c4
 have c5 := h3.c5
 have hb := hr.lt
 have hgb : g ≠ b := by omega
 have es := elemSize145
 have kaen := ha.tell.2.1
 have hcall : ∀ f, Calls Tryz.prog 93 #[.pointer (some ⟨g, 0, none⟩), .int .i32 r, .bool f] W.drew (AnsRp w0 W.drew a g 0 lo g r f) := fun f => ih w0 W.drew g 0 lo g r f (ha.keep (fun _ _ => rfl) (fun _ _ _ => rfl)) hrg (.inr (Nat.le_refl g)) (Nat.le_of_lt hrg.lt) hB.drew hlo (by omega)
 go_enter Tryz.func93, Tryz.ntmps93
 cases bg with
 | true =>
   replace hcall := hcall true
   go_wp2_with fail
   refine Rcl.start 16 (fun w' => w' = W.drew) (by kernel_rfl) ?_
   refine Rcl.take (fun _ _ _ _ _ h => h) 0 _ 80 (.pointer (some ⟨b, o, none⟩)) rfl (by kernel_rfl) rfl (by kernel_rfl) (by kernel_rfl) rfl (fun w' hw => Rcl.mv rfl rfl) ?_
   refine Rcl.take (fun _ _ _ _ _ h => h) 1 _ 81 (.pointer (some ⟨b, o, none⟩)) rfl (by kernel_rfl) rfl (by kernel_rfl) (by kernel_rfl) rfl (fun w' hw => Rcl.nc rfl rfl) ?_
   refine Rcl.take (fun _ _ _ _ _ h => h) 2 _ 82 (.pointer (some ⟨b, o + 2, none⟩)) rfl (by kernel_rfl) rfl (by kernel_rfl) (by kernel_rfl) rfl (fun w' hw => Rcl.faP rfl rfl (.inl rfl)) ?_
   refine Rcl.take (fun _ _ _ _ _ h => h) 3 _ 83 (.slice (some ⟨g, 0, none⟩) 1 kc) rfl (by kernel_rfl) rfl (by kernel_rfl) (by kernel_rfl) rfl (fun w' hw => by subst hw; exact Rcl.ld1 rfl rfl c2 (Tryz.isAgg145 _)) ?_
   refine Rcl.take (fun _ _ _ _ _ h => h) 4 _ 84 (.pointer (some ⟨g, 0 + 0 * 6, none⟩)) rfl (by kernel_rfl) rfl (by kernel_rfl) (by kernel_rfl) rfl (fun w' hw => Rcl.ix (k := 0) rfl rfl rfl (by omega) Tryz.underlying145 (elemSize145 _)) ?_
   refine Rcl.take (fun _ _ _ _ _ h => h) 5 _ 85 (.int .i32 r) rfl (by kernel_rfl) rfl (by kernel_rfl) (by kernel_rfl) rfl (fun w' hw => Rcl.mv rfl rfl) ?_
   refine Rcl.take (fun _ _ _ _ _ h => h) 6 _ 86 (.bool true) rfl (by kernel_rfl) rfl (by kernel_rfl) (by kernel_rfl) rfl (fun w' hw => Rcl.mv rfl rfl) ?_
   refine Rcl.take (fun _ _ _ _ _ h => h) 7 _ 87 (.bool true) rfl (by kernel_rfl) rfl (by kernel_rfl) (by kernel_rfl) rfl (fun w' hw => Rcl.mv rfl rfl) ?_
   refine Rcl.skip (fun _ _ _ _ _ h => h) 8 _ 88 rfl (by kernel_rfl) rfl (by kernel_rfl) (by kernel_rfl) rfl ?_
   refine Rcl.skip (fun _ _ _ _ _ h => h) 9 _ 89 rfl (by kernel_rfl) rfl (by kernel_rfl) (by kernel_rfl) rfl ?_
   refine Rcl.skip (fun _ _ _ _ _ h => h) 10 _ 90 rfl (by kernel_rfl) rfl (by kernel_rfl) (by kernel_rfl) rfl ?_
   refine Rcl.skip (fun _ _ _ _ _ h => h) 11 _ 91 rfl (by kernel_rfl) rfl (by kernel_rfl) (by kernel_rfl) rfl ?_
   refine Rcl.skip (fun _ _ _ _ _ h => h) 12 _ 92 rfl (by kernel_rfl) rfl (by kernel_rfl) (by kernel_rfl) rfl ?_
   refine Rcl.skip (fun _ _ _ _ _ h => h) 13 _ 93 rfl (by kernel_rfl) rfl (by kernel_rfl) (by kernel_rfl) rfl ?_
   refine Rcl.skip (fun _ _ _ _ _ h => h) 14 _ 94 rfl (by kernel_rfl) rfl (by kernel_rfl) (by kernel_rfl) rfl ?_
   refine Rcl.take (fun _ _ _ _ _ h => h) 15 _ 95 (.bool true) rfl (by kernel_rfl) rfl (by kernel_rfl) (by kernel_rfl) rfl (fun w' hw => Rcl.pk (b := true) rfl rfl rfl) ?_
   refine Rcl.call _ 96 93 _ _ #[.pointer (some ⟨g, 0, none⟩), .int .i32 r, .bool true] rfl (by kernel_rfl) rfl (by kernel_rfl) (by kernel_rfl) rfl (by kernel_rfl) (by kernel_rfl) hcall ?_
   rintro e W1 ⟨rfl, hpa, hka⟩
   refine ⟨_, rfl, Rcl.done (by kernel_rfl) ?_⟩
   replace hka : Kr g 0 lo g W W1 := ⟨hka.os, hka.tape, hka.output, hka.size, hka.blk, hka.cell, hka.row⟩
   have kr1 := hka.up (b := b) (o := o) (lo := lo) (hi := hi) ⟨hg1, hg2⟩ (Nat.le_refl _) (Nat.le_of_lt hg2) hbo hb
   have c6 := h3.keep (W' := W1) (fun j _ => cell_blk (hka.blk b hb (fun e => hgb e.symm) (by omega)) _)
   have hr1 := kr1.row b hr
   have hrg1 := hka.row g hrg
   have k2 := c6.c2
   have k4 := c6.c4
   have k5 := c6.c5
   have kf := hr1.frz (o + 4)
   have HRD : Hid ((Ps.one 6 a nu en go).read r true = .one 6 (a.read r true) nu (a.read r true).en ((a.read r true).en || (a.read r true).go)) := hide (by simp [Ps.read])
   obtain ⟨_, ke, ka⟩ := hpa.tell
   simp only [Nat.zero_add] at ke ka
   have HPA := hide hpa
   clear hpa hcall c0 c2 c4 c5 hka ih ha h3
   generalize (a.read r true).en = en1 at HRD ke
   generalize (a.read r true).go = ga at HRD ka
   have T1 := (Top.refl k4 k5).set4 en1
   simp only [Reg.ov, Act.put, List.setIfInBounds_toArray, List.set_cons_succ, List.set_cons_zero]
   have T2 := T1.set5 en1
   have z4 := T1.c4
   have z5 := T1.c5
   have z2 := (T1.c6 c6).c2
   have zf := (T1.row b hr1).frz (o + 5)
   have y5 := T2.c5
   have y2 := (T2.c6 c6).c2
   have yf := (T2.row b hr1).frz (o + 5)
   have yk := (cell_blk (T2.blk g hgb) 5).trans ka
   obtain ⟨e1, HE1⟩ : ∃ e1, Hid ((en1 || ga) = e1) := ⟨_, hide rfl⟩
   have T3 := T2.set5 e1
   have x5 := T3.c5
   have x2 := (T3.c6 c6).c2
   have xf := (T3.row b hr1).frz (o + 5)
   have FIN : Hid (AnsRp w0 W (.one 6 a nu en go) b o lo hi r true (.returned (.tuple #[])) (((W1.setCell ⟨b, o + 4, none⟩ (.bool en1)).setCell ⟨b, o + 5, none⟩ (.bool en1)).setCell ⟨b, o + 5, none⟩ (.bool e1))) := hide (p := AnsRp w0 W (.one 6 a nu en go) b o lo hi r true (.returned (.tuple #[])) (((W1.setCell ⟨b, o + 4, none⟩ (.bool en1)).setCell ⟨b, o + 5, none⟩ (.bool en1)).setCell ⟨b, o + 5, none⟩ (.bool e1))) ⟨rfl, by rw [HRD.out]; exact pr_one (by omega) (by first | (rw [HE1.out]; exact T3.c6 c6) | exact T3.c6 c6) hg1 hg2 (T3.row g hrg1) (T3.kid HPA.out hbo ⟨hg1, hg2⟩ (Nat.le_refl _) (Nat.le_of_lt hg2)), kr1.trans T3.kr⟩
   clear T1 T2 c6 T3
   go_wp2
   go_loopw [139] (fun u wr => (u = .int .i64 0 ∧ wr = ((W1.setCell ⟨b, o + 4, none⟩ (.bool en1)).setCell ⟨b, o + 5, none⟩ (.bool en1))) ∨ (u = .int .i64 1 ∧ wr = (((W1.setCell ⟨b, o + 4, none⟩ (.bool en1)).setCell ⟨b, o + 5, none⟩ (.bool en1)).setCell ⟨b, o + 5, none⟩ (.bool e1)))) (fun u _ => 1 - (intOf u).toNat)
   case atStart => exact .inl ⟨rfl, rfl⟩
   case round =>
     rcases hrel with ⟨rfl, rfl⟩ | ⟨rfl, rfl⟩
     · clear FIN
       cases en1 with
       | true =>
         go_wp2
         go_roundw
         case rel => exact .inr ⟨rfl, by rw [← HE1.out]; rfl⟩
         case measure => simp [intOf]
       | false =>
         go_wp2
         go_roundw
         case rel => exact .inr ⟨rfl, by rw [← HE1.out]; rfl⟩
         case measure => simp [intOf]
     · go_wp2
       go_end0
       exact FIN.out
 | false =>
   obtain rfl : go = true := by simpa using hc
   replace hcall := hcall a.en
   go_wp2_with fail
   refine Rcl.start 16 (fun w' => w' = W.drew) (by kernel_rfl) ?_
   refine Rcl.take (fun _ _ _ _ _ h => h) 0 _ 80 (.pointer (some ⟨b, o, none⟩)) rfl (by kernel_rfl) rfl (by kernel_rfl) (by kernel_rfl) rfl (fun w' hw => Rcl.mv rfl rfl) ?_
   refine Rcl.take (fun _ _ _ _ _ h => h) 1 _ 81 (.pointer (some ⟨b, o, none⟩)) rfl (by kernel_rfl) rfl (by kernel_rfl) (by kernel_rfl) rfl (fun w' hw => Rcl.nc rfl rfl) ?_
   refine Rcl.take (fun _ _ _ _ _ h => h) 2 _ 82 (.pointer (some ⟨b, o + 2, none⟩)) rfl (by kernel_rfl) rfl (by kernel_rfl) (by kernel_rfl) rfl (fun w' hw => Rcl.faP rfl rfl (.inl rfl)) ?_
   refine Rcl.take (fun _ _ _ _ _ h => h) 3 _ 83 (.slice (some ⟨g, 0, none⟩) 1 kc) rfl (by kernel_rfl) rfl (by kernel_rfl) (by kernel_rfl) rfl (fun w' hw => by subst hw; exact Rcl.ld1 rfl rfl c2 (Tryz.isAgg145 _)) ?_
   refine Rcl.take (fun _ _ _ _ _ h => h) 4 _ 84 (.pointer (some ⟨g, 0 + 0 * 6, none⟩)) rfl (by kernel_rfl) rfl (by kernel_rfl) (by kernel_rfl) rfl (fun w' hw => Rcl.ix (k := 0) rfl rfl rfl (by omega) Tryz.underlying145 (elemSize145 _)) ?_
   refine Rcl.take (fun _ _ _ _ _ h => h) 5 _ 85 (.int .i32 r) rfl (by kernel_rfl) rfl (by kernel_rfl) (by kernel_rfl) rfl (fun w' hw => Rcl.mv rfl rfl) ?_
   refine Rcl.take (fun _ _ _ _ _ h => h) 6 _ 86 (.bool false) rfl (by kernel_rfl) rfl (by kernel_rfl) (by kernel_rfl) rfl (fun w' hw => Rcl.mv rfl rfl) ?_
   refine Rcl.take (fun _ _ _ _ _ h => h) 7 _ 87 (.bool false) rfl (by kernel_rfl) rfl (by kernel_rfl) (by kernel_rfl) rfl (fun w' hw => Rcl.mv rfl rfl) ?_
   refine Rcl.take (fun _ _ _ _ _ h => h) 8 _ 88 (.pointer (some ⟨b, o, none⟩)) rfl (by kernel_rfl) rfl (by kernel_rfl) (by kernel_rfl) rfl (fun w' hw => Rcl.mv rfl rfl) ?_
   refine Rcl.take (fun _ _ _ _ _ h => h) 9 _ 89 (.pointer (some ⟨b, o, none⟩)) rfl (by kernel_rfl) rfl (by kernel_rfl) (by kernel_rfl) rfl (fun w' hw => Rcl.nc rfl rfl) ?_
   refine Rcl.take (fun _ _ _ _ _ h => h) 10 _ 90 (.pointer (some ⟨b, o + 2, none⟩)) rfl (by kernel_rfl) rfl (by kernel_rfl) (by kernel_rfl) rfl (fun w' hw => Rcl.faP rfl rfl (.inl rfl)) ?_
   refine Rcl.take (fun _ _ _ _ _ h => h) 11 _ 91 (.slice (some ⟨g, 0, none⟩) 1 kc) rfl (by kernel_rfl) rfl (by kernel_rfl) (by kernel_rfl) rfl (fun w' hw => by subst hw; exact Rcl.ld1 rfl rfl c2 (Tryz.isAgg145 _)) ?_
   refine Rcl.take (fun _ _ _ _ _ h => h) 12 _ 92 (.pointer (some ⟨g, 0 + 0 * 6, none⟩)) rfl (by kernel_rfl) rfl (by kernel_rfl) (by kernel_rfl) rfl (fun w' hw => Rcl.ix (k := 0) rfl rfl rfl (by omega) Tryz.underlying145 (elemSize145 _)) ?_
   refine Rcl.take (fun _ _ _ _ _ h => h) 13 _ 93 (.pointer (some ⟨g, 0 + 0 * 6 + 4, none⟩)) rfl (by kernel_rfl) rfl (by kernel_rfl) (by kernel_rfl) rfl (fun w' hw => Rcl.faP rfl rfl (.inr rfl)) ?_
   refine Rcl.take (fun _ _ _ _ _ h => h) 14 _ 94 (.bool a.en) rfl (by kernel_rfl) rfl (by kernel_rfl) (by kernel_rfl) rfl (fun w' hw => by subst hw; exact Rcl.ld1 rfl rfl kaen (Tryz.isAgg4 _)) ?_
   refine Rcl.take (fun _ _ _ _ _ h => h) 15 _ 95 (.bool a.en) rfl (by kernel_rfl) rfl (by kernel_rfl) (by kernel_rfl) rfl (fun w' hw => Rcl.pk (b := false) rfl rfl rfl) ?_
   refine Rcl.call _ 96 93 _ _ #[.pointer (some ⟨g, 0, none⟩), .int .i32 r, .bool a.en] rfl (by kernel_rfl) rfl (by kernel_rfl) (by kernel_rfl) rfl (by kernel_rfl) (by kernel_rfl) hcall ?_
   rintro e W1 ⟨rfl, hpa, hka⟩
   refine ⟨_, rfl, Rcl.done (by kernel_rfl) ?_⟩
   replace hka : Kr g 0 lo g W W1 := ⟨hka.os, hka.tape, hka.output, hka.size, hka.blk, hka.cell, hka.row⟩
   have kr1 := hka.up (b := b) (o := o) (lo := lo) (hi := hi) ⟨hg1, hg2⟩ (Nat.le_refl _) (Nat.le_of_lt hg2) hbo hb
   have c6 := h3.keep (W' := W1) (fun j _ => cell_blk (hka.blk b hb (fun e => hgb e.symm) (by omega)) _)
   have hr1 := kr1.row b hr
   have hrg1 := hka.row g hrg
   have k2 := c6.c2
   have k4 := c6.c4
   have k5 := c6.c5
   have kf := hr1.frz (o + 4)
   have HRD : Hid ((Ps.one 6 a nu en true).read r false = .one 6 (a.read r a.en) nu (a.read r a.en).en ((a.read r a.en).en || (a.read r a.en).go)) := hide (by simp [Ps.read])
   obtain ⟨_, ke, ka⟩ := hpa.tell
   simp only [Nat.zero_add] at ke ka
   have HPA := hide hpa
   clear hpa hcall c0 c2 c4 c5 hka ih ha h3
   generalize (a.read r a.en).en = en1 at HRD ke
   generalize (a.read r a.en).go = ga at HRD ka
   have T1 := (Top.refl k4 k5).set4 en1
   simp only [Reg.ov, Act.put, List.setIfInBounds_toArray, List.set_cons_succ, List.set_cons_zero]
   have T2 := T1.set5 en1
   have z4 := T1.c4
   have z5 := T1.c5
   have z2 := (T1.c6 c6).c2
   have zf := (T1.row b hr1).frz (o + 5)
   have y5 := T2.c5
   have y2 := (T2.c6 c6).c2
   have yf := (T2.row b hr1).frz (o + 5)
   have yk := (cell_blk (T2.blk g hgb) 5).trans ka
   obtain ⟨e1, HE1⟩ : ∃ e1, Hid ((en1 || ga) = e1) := ⟨_, hide rfl⟩
   have T3 := T2.set5 e1
   have x5 := T3.c5
   have x2 := (T3.c6 c6).c2
   have xf := (T3.row b hr1).frz (o + 5)
   have FIN : Hid (AnsRp w0 W (.one 6 a nu en true) b o lo hi r false (.returned (.tuple #[])) (((W1.setCell ⟨b, o + 4, none⟩ (.bool en1)).setCell ⟨b, o + 5, none⟩ (.bool en1)).setCell ⟨b, o + 5, none⟩ (.bool e1))) := hide (p := AnsRp w0 W (.one 6 a nu en true) b o lo hi r false (.returned (.tuple #[])) (((W1.setCell ⟨b, o + 4, none⟩ (.bool en1)).setCell ⟨b, o + 5, none⟩ (.bool en1)).setCell ⟨b, o + 5, none⟩ (.bool e1))) ⟨rfl, by rw [HRD.out]; exact pr_one (by omega) (by first | (rw [HE1.out]; exact T3.c6 c6) | exact T3.c6 c6) hg1 hg2 (T3.row g hrg1) (T3.kid HPA.out hbo ⟨hg1, hg2⟩ (Nat.le_refl _) (Nat.le_of_lt hg2)), kr1.trans T3.kr⟩
   clear T1 T2 c6 T3
   go_wp2
   go_loopw [139] (fun u wr => (u = .int .i64 0 ∧ wr = ((W1.setCell ⟨b, o + 4, none⟩ (.bool en1)).setCell ⟨b, o + 5, none⟩ (.bool en1))) ∨ (u = .int .i64 1 ∧ wr = (((W1.setCell ⟨b, o + 4, none⟩ (.bool en1)).setCell ⟨b, o + 5, none⟩ (.bool en1)).setCell ⟨b, o + 5, none⟩ (.bool e1)))) (fun u _ => 1 - (intOf u).toNat)
   case atStart => exact .inl ⟨rfl, rfl⟩
   case round =>
     rcases hrel with ⟨rfl, rfl⟩ | ⟨rfl, rfl⟩
     · clear FIN
       cases en1 with
       | true =>
         go_wp2
         go_roundw
         case rel => exact .inr ⟨rfl, by rw [← HE1.out]; rfl⟩
         case measure => simp [intOf]
       | false =>
         go_wp2
         go_roundw
         case rel => exact .inr ⟨rfl, by rw [← HE1.out]; rfl⟩
         case measure => simp [intOf]
     · go_wp2
       go_end0
       exact FIN.out
set_option maxRecDepth 100000 in
set_option maxHeartbeats 2000000 in
theorem read_one7 (w0 W : World) (b o lo hi : Nat) (r : Int) (bg : Bool) (a : Ps) (nu en go : Bool) (ih : RdC a) (h : PR w0 W (.one 7 a nu en go) b o lo hi) (hc : (!bg && !go) = false) (hr : Row W b) (hbo : b < lo ∨ hi ≤ b) (_hhi : hi ≤ W.heap.size) (hB : Below w0.heap.size w0 W) (hlo : w0.heap.size ≤ lo) (_hwb : w0.heap.size ≤ b) :
   Calls Tryz.prog 93 #[.pointer (some ⟨b, o, none⟩), .int .i32 r, .bool bg] W (AnsRp w0 W (.one 7 a nu en go) b o lo hi r bg) := by
 unfold PR at h
 obtain ⟨_, sv, g, kc, h3, hg1, hg2, hrg, ha⟩ := h
 have c0 := h3.c0
 have c2 := h3.c2
 have c4 := h3.c4
 have c5 := h3.c5
 have hb := hr.lt
 have hgb : g ≠ b := by omega
 have es := elemSize145
 have kaen := ha.tell.2.1
 have hcall : ∀ f, Calls Tryz.prog 93 #[.pointer (some ⟨g, 0, none⟩), .int .i32 r, .bool f] W.drew (AnsRp w0 W.drew a g 0 lo g r f) := fun f => ih w0 W.drew g 0 lo g r f (ha.keep (fun _ _ => rfl) (fun _ _ _ => rfl)) hrg (.inr (Nat.le_refl g)) (Nat.le_of_lt hrg.lt) hB.drew hlo (by omega)
 go_enter Tryz.func93, Tryz.ntmps93
 cases bg with
 | true =>
   replace hcall := hcall true
   go_wp2_with fail
   refine Rcl.start 16 (fun w' => w' = W.drew) (by kernel_rfl) ?_
   refine Rcl.take (fun _ _ _ _ _ h => h) 0 _ 80 (.pointer (some ⟨b, o, none⟩)) rfl (by kernel_rfl) rfl (by kernel_rfl) (by kernel_rfl) rfl (fun w' hw => Rcl.mv rfl rfl) ?_
   refine Rcl.take (fun _ _ _ _ _ h => h) 1 _ 81 (.pointer (some ⟨b, o, none⟩)) rfl (by kernel_rfl) rfl (by kernel_rfl) (by kernel_rfl) rfl (fun w' hw => Rcl.nc rfl rfl) ?_
   refine Rcl.take (fun _ _ _ _ _ h => h) 2 _ 82 (.pointer (some ⟨b, o + 2, none⟩)) rfl (by kernel_rfl) rfl (by kernel_rfl) (by kernel_rfl) rfl (fun w' hw => Rcl.faP rfl rfl (.inl rfl)) ?_
   refine Rcl.take (fun _ _ _ _ _ h => h) 3 _ 83 (.slice (some ⟨g, 0, none⟩) 1 kc) rfl (by kernel_rfl) rfl (by kernel_rfl) (by kernel_rfl) rfl (fun w' hw => by subst hw; exact Rcl.ld1 rfl rfl c2 (Tryz.isAgg145 _)) ?_
   refine Rcl.take (fun _ _ _ _ _ h => h) 4 _ 84 (.pointer (some ⟨g, 0 + 0 * 6, none⟩)) rfl (by kernel_rfl) rfl (by kernel_rfl) (by kernel_rfl) rfl (fun w' hw => Rcl.ix (k := 0) rfl rfl rfl (by omega) Tryz.underlying145 (elemSize145 _)) ?_
   refine Rcl.take (fun _ _ _ _ _ h => h) 5 _ 85 (.int .i32 r) rfl (by kernel_rfl) rfl (by kernel_rfl) (by kernel_rfl) rfl (fun w' hw => Rcl.mv rfl rfl) ?_
   refine Rcl.take (fun _ _ _ _ _ h => h) 6 _ 86 (.bool true) rfl (by kernel_rfl) rfl (by kernel_rfl) (by kernel_rfl) rfl (fun w' hw => Rcl.mv rfl rfl) ?_
   refine Rcl.take (fun _ _ _ _ _ h => h) 7 _ 87 (.bool true) rfl (by kernel_rfl) rfl (by kernel_rfl) (by kernel_rfl) rfl (fun w' hw => Rcl.mv rfl rfl) ?_
   refine Rcl.skip (fun _ _ _ _ _ h => h) 8 _ 88 rfl (by kernel_rfl) rfl (by kernel_rfl) (by kernel_rfl) rfl ?_
   refine Rcl.skip (fun _ _ _ _ _ h => h) 9 _ 89 rfl (by kernel_rfl) rfl (by kernel_rfl) (by kernel_rfl) rfl ?_
   refine Rcl.skip (fun _ _ _ _ _ h => h) 10 _ 90 rfl (by kernel_rfl) rfl (by kernel_rfl) (by kernel_rfl) rfl ?_
   refine Rcl.skip (fun _ _ _ _ _ h => h) 11 _ 91 rfl (by kernel_rfl) rfl (by kernel_rfl) (by kernel_rfl) rfl ?_
   refine Rcl.skip (fun _ _ _ _ _ h => h) 12 _ 92 rfl (by kernel_rfl) rfl (by kernel_rfl) (by kernel_rfl) rfl ?_
   refine Rcl.skip (fun _ _ _ _ _ h => h) 13 _ 93 rfl (by kernel_rfl) rfl (by kernel_rfl) (by kernel_rfl) rfl ?_
   refine Rcl.skip (fun _ _ _ _ _ h => h) 14 _ 94 rfl (by kernel_rfl) rfl (by kernel_rfl) (by kernel_rfl) rfl ?_
   refine Rcl.take (fun _ _ _ _ _ h => h) 15 _ 95 (.bool true) rfl (by kernel_rfl) rfl (by kernel_rfl) (by kernel_rfl) rfl (fun w' hw => Rcl.pk (b := true) rfl rfl rfl) ?_
   refine Rcl.call _ 96 93 _ _ #[.pointer (some ⟨g, 0, none⟩), .int .i32 r, .bool true] rfl (by kernel_rfl) rfl (by kernel_rfl) (by kernel_rfl) rfl (by kernel_rfl) (by kernel_rfl) hcall ?_
   rintro e W1 ⟨rfl, hpa, hka⟩
   refine ⟨_, rfl, Rcl.done (by kernel_rfl) ?_⟩
   replace hka : Kr g 0 lo g W W1 := ⟨hka.os, hka.tape, hka.output, hka.size, hka.blk, hka.cell, hka.row⟩
   have kr1 := hka.up (b := b) (o := o) (lo := lo) (hi := hi) ⟨hg1, hg2⟩ (Nat.le_refl _) (Nat.le_of_lt hg2) hbo hb
   have c6 := h3.keep (W' := W1) (fun j _ => cell_blk (hka.blk b hb (fun e => hgb e.symm) (by omega)) _)
   have hr1 := kr1.row b hr
   have hrg1 := hka.row g hrg
   have k2 := c6.c2
   have k4 := c6.c4
   have k5 := c6.c5
   have kf := hr1.frz (o + 4)
   have HRD : Hid ((Ps.one 7 a nu en go).read r true = .one 7 (a.read r true) nu (a.read r true).en ((a.read r true).en || (a.read r true).go)) := hide (by simp [Ps.read])
   obtain ⟨_, ke, ka⟩ := hpa.tell
   simp only [Nat.zero_add] at ke ka
   have HPA := hide hpa
   clear hpa hcall c0 c2 c4 c5 hka ih ha h3
   generalize (a.read r true).en = en1 at HRD ke
   generalize (a.read r true).go = ga at HRD ka
   have T1 := (Top.refl k4 k5).set4 en1
   simp only [Reg.ov, Act.put, List.setIfInBounds_toArray, List.set_cons_succ, List.set_cons_zero]
   have T2 := T1.set5 en1
   have z4 := T1.c4
   have z5 := T1.c5
   have z2 := (T1.c6 c6).c2
   have zf := (T1.row b hr1).frz (o + 5)
   have y5 := T2.c5
   have y2 := (T2.c6 c6).c2
   have yf := (T2.row b hr1).frz (o + 5)
   have yk := (cell_blk (T2.blk g hgb) 5).trans ka
   obtain ⟨e1, HE1⟩ : ∃ e1, Hid ((en1 || ga) = e1) := ⟨_, hide rfl⟩
   have T3 := T2.set5 e1
   have x5 := T3.c5
   have x2 := (T3.c6 c6).c2
   have xf := (T3.row b hr1).frz (o + 5)
   have FIN : Hid (AnsRp w0 W (.one 7 a nu en go) b o lo hi r true (.returned (.tuple #[])) (((W1.setCell ⟨b, o + 4, none⟩ (.bool en1)).setCell ⟨b, o + 5, none⟩ (.bool en1)).setCell ⟨b, o + 5, none⟩ (.bool e1))) := hide (p := AnsRp w0 W (.one 7 a nu en go) b o lo hi r true (.returned (.tuple #[])) (((W1.setCell ⟨b, o + 4, none⟩ (.bool en1)).setCell ⟨b, o + 5, none⟩ (.bool en1)).setCell ⟨b, o + 5, none⟩ (.bool e1))) ⟨rfl, by rw [HRD.out]; exact pr_one (by omega) (by first | (rw [HE1.out]; exact T3.c6 c6) | exact T3.c6 c6) hg1 hg2 (T3.row g hrg1) (T3.kid HPA.out hbo ⟨hg1, hg2⟩ (Nat.le_refl _) (Nat.le_of_lt hg2)), kr1.trans T3.kr⟩
   clear T1 T2 c6 T3
   go_wp2
   go_loopw [139] (fun u wr => (u = .int .i64 0 ∧ wr = ((W1.setCell ⟨b, o + 4, none⟩ (.bool en1)).setCell ⟨b, o + 5, none⟩ (.bool en1))) ∨ (u = .int .i64 1 ∧ wr = (((W1.setCell ⟨b, o + 4, none⟩ (.bool en1)).setCell ⟨b, o + 5, none⟩ (.bool en1)).setCell ⟨b, o + 5, none⟩ (.bool e1)))) (fun u _ => 1 - (intOf u).toNat)
   case atStart => exact .inl ⟨rfl, rfl⟩
   case round =>
     rcases hrel with ⟨rfl, rfl⟩ | ⟨rfl, rfl⟩
     · clear FIN
       cases en1 with
       | true =>
         go_wp2
         go_roundw
         case rel => exact .inr ⟨rfl, by rw [← HE1.out]; rfl⟩
         case measure => simp [intOf]
       | false =>
         go_wp2
         go_roundw
         case rel => exact .inr ⟨rfl, by rw [← HE1.out]; rfl⟩
         case measure => simp [intOf]
     · go_wp2
       go_end0
       exact FIN.out
 | false =>
   obtain rfl : go = true := by simpa using hc
   replace hcall := hcall a.en
   go_wp2_with fail
   refine Rcl.start 16 (fun w' => w' = W.drew) (by kernel_rfl) ?_
   refine Rcl.take (fun _ _ _ _ _ h => h) 0 _ 80 (.pointer (some ⟨b, o, none⟩)) rfl (by kernel_rfl) rfl (by kernel_rfl) (by kernel_rfl) rfl (fun w' hw => Rcl.mv rfl rfl) ?_
   refine Rcl.take (fun _ _ _ _ _ h => h) 1 _ 81 (.pointer (some ⟨b, o, none⟩)) rfl (by kernel_rfl) rfl (by kernel_rfl) (by kernel_rfl) rfl (fun w' hw => Rcl.nc rfl rfl) ?_
   refine Rcl.take (fun _ _ _ _ _ h => h) 2 _ 82 (.pointer (some ⟨b, o + 2, none⟩)) rfl (by kernel_rfl) rfl (by kernel_rfl) (by kernel_rfl) rfl (fun w' hw => Rcl.faP rfl rfl (.inl rfl)) ?_
   refine Rcl.take (fun _ _ _ _ _ h => h) 3 _ 83 (.slice (some ⟨g, 0, none⟩) 1 kc) rfl (by kernel_rfl) rfl (by kernel_rfl) (by kernel_rfl) rfl (fun w' hw => by subst hw; exact Rcl.ld1 rfl rfl c2 (Tryz.isAgg145 _)) ?_
   refine Rcl.take (fun _ _ _ _ _ h => h) 4 _ 84 (.pointer (some ⟨g, 0 + 0 * 6, none⟩)) rfl (by kernel_rfl) rfl (by kernel_rfl) (by kernel_rfl) rfl (fun w' hw => Rcl.ix (k := 0) rfl rfl rfl (by omega) Tryz.underlying145 (elemSize145 _)) ?_
   refine Rcl.take (fun _ _ _ _ _ h => h) 5 _ 85 (.int .i32 r) rfl (by kernel_rfl) rfl (by kernel_rfl) (by kernel_rfl) rfl (fun w' hw => Rcl.mv rfl rfl) ?_
   refine Rcl.take (fun _ _ _ _ _ h => h) 6 _ 86 (.bool false) rfl (by kernel_rfl) rfl (by kernel_rfl) (by kernel_rfl) rfl (fun w' hw => Rcl.mv rfl rfl) ?_
   refine Rcl.take (fun _ _ _ _ _ h => h) 7 _ 87 (.bool false) rfl (by kernel_rfl) rfl (by kernel_rfl) (by kernel_rfl) rfl (fun w' hw => Rcl.mv rfl rfl) ?_
   refine Rcl.take (fun _ _ _ _ _ h => h) 8 _ 88 (.pointer (some ⟨b, o, none⟩)) rfl (by kernel_rfl) rfl (by kernel_rfl) (by kernel_rfl) rfl (fun w' hw => Rcl.mv rfl rfl) ?_
   refine Rcl.take (fun _ _ _ _ _ h => h) 9 _ 89 (.pointer (some ⟨b, o, none⟩)) rfl (by kernel_rfl) rfl (by kernel_rfl) (by kernel_rfl) rfl (fun w' hw => Rcl.nc rfl rfl) ?_
   refine Rcl.take (fun _ _ _ _ _ h => h) 10 _ 90 (.pointer (some ⟨b, o + 2, none⟩)) rfl (by kernel_rfl) rfl (by kernel_rfl) (by kernel_rfl) rfl (fun w' hw => Rcl.faP rfl rfl (.inl rfl)) ?_
   refine Rcl.take (fun _ _ _ _ _ h => h) 11 _ 91 (.slice (some ⟨g, 0, none⟩) 1 kc) rfl (by kernel_rfl) rfl (by kernel_rfl) (by kernel_rfl) rfl (fun w' hw => by subst hw; exact Rcl.ld1 rfl rfl c2 (Tryz.isAgg145 _)) ?_
   refine Rcl.take (fun _ _ _ _ _ h => h) 12 _ 92 (.pointer (some ⟨g, 0 + 0 * 6, none⟩)) rfl (by kernel_rfl) rfl (by kernel_rfl) (by kernel_rfl) rfl (fun w' hw => Rcl.ix (k := 0) rfl rfl rfl (by omega) Tryz.underlying145 (elemSize145 _)) ?_
   refine Rcl.take (fun _ _ _ _ _ h => h) 13 _ 93 (.pointer (some ⟨g, 0 + 0 * 6 + 4, none⟩)) rfl (by kernel_rfl) rfl (by kernel_rfl) (by kernel_rfl) rfl (fun w' hw => Rcl.faP rfl rfl (.inr rfl)) ?_
   refine Rcl.take (fun _ _ _ _ _ h => h) 14 _ 94 (.bool a.en) rfl (by kernel_rfl) rfl (by kernel_rfl) (by kernel_rfl) rfl (fun w' hw => by subst hw; exact Rcl.ld1 rfl rfl kaen (Tryz.isAgg4 _)) ?_
   refine Rcl.take (fun _ _ _ _ _ h => h) 15 _ 95 (.bool a.en) rfl (by kernel_rfl) rfl (by kernel_rfl) (by kernel_rfl) rfl (fun w' hw => Rcl.pk (b := false) rfl rfl rfl) ?_
   refine Rcl.call _ 96 93 _ _ #[.pointer (some ⟨g, 0, none⟩), .int .i32 r, .bool a.en] rfl (by kernel_rfl) rfl (by kernel_rfl) (by kernel_rfl) rfl (by kernel_rfl) (by kernel_rfl) hcall ?_
   rintro e W1 ⟨rfl, hpa, hka⟩
   refine ⟨_, rfl, Rcl.done (by kernel_rfl) ?_⟩
   replace hka : Kr g 0 lo g W W1 := ⟨hka.os, hka.tape, hka.output, hka.size, hka.blk, hka.cell, hka.row⟩
   have kr1 := hka.up (b := b) (o := o) (lo := lo) (hi := hi) ⟨hg1, hg2⟩ (Nat.le_refl _) (Nat.le_of_lt hg2) hbo hb
   have c6 := h3.keep (W' := W1) (fun j _ => cell_blk (hka.blk b hb (fun e => hgb e.symm) (by omega)) _)
   have hr1 := kr1.row b hr
   have hrg1 := hka.row g hrg
   have k2 := c6.c2
   have k4 := c6.c4
   have k5 := c6.c5
   have kf := hr1.frz (o + 4)
   have HRD : Hid ((Ps.one 7 a nu en true).read r false = .one 7 (a.read r a.en) nu (a.read r a.en).en ((a.read r a.en).en || (a.read r a.en).go)) := hide (by simp [Ps.read])
   obtain ⟨_, ke, ka⟩ := hpa.tell
   simp only [Nat.zero_add] at ke ka
   have HPA := hide hpa
   clear hpa hcall c0 c2 c4 c5 hka ih ha h3
   generalize (a.read r a.en).en = en1 at HRD ke
   generalize (a.read r a.en).go = ga at HRD ka
   have T1 := (Top.refl k4 k5).set4 en1
   simp only [Reg.ov, Act.put, List.setIfInBounds_toArray, List.set_cons_succ, List.set_cons_zero]
   have T2 := T1.set5 en1
   have z4 := T1.c4
   have z5 := T1.c5
   have z2 := (T1.c6 c6).c2
   have zf := (T1.row b hr1).frz (o + 5)
   have y5 := T2.c5
   have y2 := (T2.c6 c6).c2
   have yf := (T2.row b hr1).frz (o + 5)
   have yk := (cell_blk (T2.blk g hgb) 5).trans ka
   obtain ⟨e1, HE1⟩ : ∃ e1, Hid ((en1 || ga) = e1) := ⟨_, hide rfl⟩
   have T3 := T2.set5 e1
   have x5 := T3.c5
   have x2 := (T3.c6 c6).c2
   have xf := (T3.row b hr1).frz (o + 5)
   have FIN : Hid (AnsRp w0 W (.one 7 a nu en true) b o lo hi r false (.returned (.tuple #[])) (((W1.setCell ⟨b, o + 4, none⟩ (.bool en1)).setCell ⟨b, o + 5, none⟩ (.bool en1)).setCell ⟨b, o + 5, none⟩ (.bool e1))) := hide (p := AnsRp w0 W (.one 7 a nu en true) b o lo hi r false (.returned (.tuple #[])) (((W1.setCell ⟨b, o + 4, none⟩ (.bool en1)).setCell ⟨b, o + 5, none⟩ (.bool en1)).setCell ⟨b, o + 5, none⟩ (.bool e1))) ⟨rfl, by rw [HRD.out]; exact pr_one (by omega) (by first | (rw [HE1.out]; exact T3.c6 c6) | exact T3.c6 c6) hg1 hg2 (T3.row g hrg1) (T3.kid HPA.out hbo ⟨hg1, hg2⟩ (Nat.le_refl _) (Nat.le_of_lt hg2)), kr1.trans T3.kr⟩
   clear T1 T2 c6 T3
   go_wp2
   go_loopw [139] (fun u wr => (u = .int .i64 0 ∧ wr = ((W1.setCell ⟨b, o + 4, none⟩ (.bool en1)).setCell ⟨b, o + 5, none⟩ (.bool en1))) ∨ (u = .int .i64 1 ∧ wr = (((W1.setCell ⟨b, o + 4, none⟩ (.bool en1)).setCell ⟨b, o + 5, none⟩ (.bool en1)).setCell ⟨b, o + 5, none⟩ (.bool e1)))) (fun u _ => 1 - (intOf u).toNat)
   case atStart => exact .inl ⟨rfl, rfl⟩
   case round =>
     rcases hrel with ⟨rfl, rfl⟩ | ⟨rfl, rfl⟩
     · clear FIN
       cases en1 with
       | true =>
         go_wp2
         go_roundw
         case rel => exact .inr ⟨rfl, by rw [← HE1.out]; rfl⟩
         case measure => simp [intOf]
       | false =>
         go_wp2
         go_roundw
         case rel => exact .inr ⟨rfl, by rw [← HE1.out]; rfl⟩
         case measure => simp [intOf]
     · go_wp2
       go_end0
       exact FIN.out
set_option maxRecDepth 100000 in
set_option maxHeartbeats 2000000 in
theorem read_alt (w0 W : World) (b o lo hi : Nat) (r : Int) (bg : Bool) (x y : Ps) (nu en go : Bool) (ihx : RdC x) (ihy : RdC y) (h : PR w0 W (.two 5 x y nu en go) b o lo hi) (hc : (!bg && !go) = false) (hr : Row W b) (hbo : b < lo ∨ hi ≤ b) (hhi : hi ≤ W.heap.size) (hB : Below w0.heap.size w0 W) (hlo : w0.heap.size ≤ lo) (_hwb : w0.heap.size ≤ b) :
   Calls Tryz.prog 93 #[.pointer (some ⟨b, o, none⟩), .int .i32 r, .bool bg] W (AnsRp w0 W (.two 5 x y nu en go) b o lo hi r bg) := by
 unfold PR at h
 obtain ⟨_, sv, g, kc, l1, h1, l2, h2, h3, hg1, hg2, hrg, hx, hy, i1, i2, i3⟩ := h
 have c0 := h3.c0
 have c2 := h3.c2
 have c4 := h3.c4
 have c5 := h3.c5
 have hb := hr.lt
 have hgl := hrg.lt
 have hgb : g ≠ b := by omega
 have es := elemSize145
 go_enter Tryz.func93, Tryz.ntmps93
 cases bg with
 | true =>
   have hcall1 := ihx w0 W g 0 l1 h1 r true hx hrg (by omega) (by omega) hB (by omega) (by omega)
   go_wp2_with fail
   refine hcall1.mono ?_
   rintro e W1 ⟨rfl, px, k1⟩
   clear hcall1 c0 c2 c4 c5
   have p1 := k1.row g hrg
   have hy1 : PR w0 W1 y g 6 l2 h2 := hy.other k1 hgl (by omega) (by omega) (by omega) (by omega) (by omega)
   have B1 : Below w0.heap.size w0 W1 := k1.below hB (by omega) (by omega) (by have := hr.lt; omega)
   have s1 := k1.size
   have hcall2 := ihy w0 W1 g 6 l2 h2 r true hy1 p1 (by omega) (by omega) B1 (by omega) (by omega)
   have u1 := k1.up (b := b) (o := o) (lo := lo) (hi := hi) ⟨hg1, hg2⟩ (by omega) (by omega) hbo hb
   have d6 := h3.keep (W' := W1) (fun j _ => cell_blk (k1.blk b hb (fun e => hgb e.symm) (by omega)) _)
   have d0 := d6.c0
   have d2 := d6.c2
   go_wp2_with fail
   refine hcall2.mono ?_
   rintro e W2 ⟨rfl, py, k2⟩
   clear hcall2 d0 d2
   have px2 : PR w0 W2 (x.read r true) g 0 l1 h1 := px.other k2 p1.lt (by omega) (by omega) (by omega) (by omega) (by omega)
   have u2 := u1.trans (k2.up (b := b) (o := o) (lo := lo) (hi := hi) ⟨hg1, hg2⟩ (by omega) (by omega) hbo (by omega))
   have c6 := d6.keep (W' := W2) (fun j _ => cell_blk (k2.blk b (by omega) (fun e => hgb e.symm) (by omega)) _)
   have hr1 := u2.row b hr
   have hrg1 := u2.row g hrg
   have k2' := c6.c2
   have k4 := c6.c4
   have k5 := c6.c5
   have kf := hr1.frz (o + 4)
   obtain ⟨_, kxe, ka⟩ := px2.tell
   obtain ⟨kyn, kye, kb⟩ := py.tell
   simp only [Nat.zero_add, Nat.reduceAdd] at kxe ka kyn kye kb
   have HRD : Hid ((Ps.two 5 x y nu en go).read r true = .two 5 (x.read r true) (y.read r true) nu ((x.read r true).en || (y.read r true).en) ((x.read r true).en || (y.read r true).en || (x.read r true).go || (y.read r true).go)) := hide (by simp [Ps.read])
   have HPX := hide px2
   have HPY := hide py
   clear px py px2 ihx ihy hx hy hy1 k1 k2 B1 d6 h3 kyn
   generalize (x.read r true).en = ex at HRD kxe
   generalize (y.read r true).en = en1 at HRD kye
   generalize (x.read r true).go = ga at HRD ka
   generalize (y.read r true).go = gb at HRD kb
   cases ex with
   | true =>
     have T1 := (Top.refl k4 k5).set4 true
     rw [show (true || en1) = true from rfl] at HRD
     have T2 := T1.set5 true
     have z4 := T1.c4
     have z5 := T1.c5
     have z2 := (T1.c6 c6).c2
     have zf := (T1.row b hr1).frz (o + 5)
     have y5 := T2.c5
     have y2 := (T2.c6 c6).c2
     have yf := (T2.row b hr1).frz (o + 5)
     have yk := (cell_blk (T2.blk g hgb) 5).trans ka
     obtain ⟨e1, HE1⟩ : ∃ e1, Hid ((true || ga) = e1) := ⟨_, hide rfl⟩
     have T3 := T2.set5 e1
     have x5 := T3.c5
     have x2 := (T3.c6 c6).c2
     have xf := (T3.row b hr1).frz (o + 5)
     have xk := (cell_blk (T3.blk g hgb) 11).trans kb
     obtain ⟨e2, HE2⟩ : ∃ e2, Hid ((e1 || gb) = e2) := ⟨_, hide rfl⟩
     have T4 := T3.set5 e2
     have w5 := T4.c5
     have w2 := (T4.c6 c6).c2
     have wf := (T4.row b hr1).frz (o + 5)
     have FIN : Hid (AnsRp w0 W (.two 5 x y nu en go) b o lo hi r true (.returned (.tuple #[])) ((((W2.setCell ⟨b, o + 4, none⟩ (.bool true)).setCell ⟨b, o + 5, none⟩ (.bool true)).setCell ⟨b, o + 5, none⟩ (.bool e1)).setCell ⟨b, o + 5, none⟩ (.bool e2))) := hide (p := AnsRp w0 W (.two 5 x y nu en go) b o lo hi r true (.returned (.tuple #[])) ((((W2.setCell ⟨b, o + 4, none⟩ (.bool true)).setCell ⟨b, o + 5, none⟩ (.bool true)).setCell ⟨b, o + 5, none⟩ (.bool e1)).setCell ⟨b, o + 5, none⟩ (.bool e2))) ⟨rfl, by rw [HRD.out]; exact pr_two (by omega) (by rw [HE1.out, HE2.out]; exact T4.c6 c6) hg1 hg2 (T4.row g hrg1) (T4.kid HPX.out hbo ⟨hg1, hg2⟩ i1.1 (by omega)) (T4.kid HPY.out hbo ⟨hg1, hg2⟩ i2.1 (by omega)) i1 i2 i3, u2.trans T4.kr⟩
     clear T1 T2 c6 T3 T4
     go_wp2
     go_loopw [139] (fun u wr => (u = .int .i64 0 ∧ wr = ((W2.setCell ⟨b, o + 4, none⟩ (.bool true)).setCell ⟨b, o + 5, none⟩ (.bool true))) ∨ (u = .int .i64 1 ∧ wr = (((W2.setCell ⟨b, o + 4, none⟩ (.bool true)).setCell ⟨b, o + 5, none⟩ (.bool true)).setCell ⟨b, o + 5, none⟩ (.bool e1))) ∨ (u = .int .i64 2 ∧ wr = ((((W2.setCell ⟨b, o + 4, none⟩ (.bool true)).setCell ⟨b, o + 5, none⟩ (.bool true)).setCell ⟨b, o + 5, none⟩ (.bool e1)).setCell ⟨b, o + 5, none⟩ (.bool e2)))) (fun u _ => 2 - (intOf u).toNat)
     case atStart => exact .inl ⟨rfl, rfl⟩
     case round =>
       rcases hrel with ⟨rfl, rfl⟩ | ⟨rfl, rfl⟩ | ⟨rfl, rfl⟩
       · clear FIN
         go_wp2
         go_roundw
         case rel => exact .inr (.inl ⟨rfl, by rw [← HE1.out]; rfl⟩)
         case measure => simp [intOf]
       · clear FIN
         cases e1 with
         | true =>
           go_wp2
           go_roundw
           case rel => exact .inr (.inr ⟨rfl, by rw [← HE2.out]; rfl⟩)
           case measure => simp [intOf]
         | false =>
           go_wp2
           go_roundw
           case rel => exact .inr (.inr ⟨rfl, by rw [← HE2.out]; rfl⟩)
           case measure => simp [intOf]
       · go_wp2
         go_end0
         exact FIN.out
   | false =>
     have T1 := (Top.refl k4 k5).set4 en1
     rw [show (false || en1) = en1 from rfl] at HRD
     have T2 := T1.set5 en1
     have z4 := T1.c4
     have z5 := T1.c5
     have z2 := (T1.c6 c6).c2
     have zf := (T1.row b hr1).frz (o + 5)
     have y5 := T2.c5
     have y2 := (T2.c6 c6).c2
     have yf := (T2.row b hr1).frz (o + 5)
     have yk := (cell_blk (T2.blk g hgb) 5).trans ka
     obtain ⟨e1, HE1⟩ : ∃ e1, Hid ((en1 || ga) = e1) := ⟨_, hide rfl⟩
     have T3 := T2.set5 e1
     have x5 := T3.c5
     have x2 := (T3.c6 c6).c2
     have xf := (T3.row b hr1).frz (o + 5)
     have xk := (cell_blk (T3.blk g hgb) 11).trans kb
     obtain ⟨e2, HE2⟩ : ∃ e2, Hid ((e1 || gb) = e2) := ⟨_, hide rfl⟩
     have T4 := T3.set5 e2
     have w5 := T4.c5
     have w2 := (T4.c6 c6).c2
     have wf := (T4.row b hr1).frz (o + 5)
     have FIN : Hid (AnsRp w0 W (.two 5 x y nu en go) b o lo hi r true (.returned (.tuple #[])) ((((W2.setCell ⟨b, o + 4, none⟩ (.bool en1)).setCell ⟨b, o + 5, none⟩ (.bool en1)).setCell ⟨b, o + 5, none⟩ (.bool e1)).setCell ⟨b, o + 5, none⟩ (.bool e2))) := hide (p := AnsRp w0 W (.two 5 x y nu en go) b o lo hi r true (.returned (.tuple #[])) ((((W2.setCell ⟨b, o + 4, none⟩ (.bool en1)).setCell ⟨b, o + 5, none⟩ (.bool en1)).setCell ⟨b, o + 5, none⟩ (.bool e1)).setCell ⟨b, o + 5, none⟩ (.bool e2))) ⟨rfl, by rw [HRD.out]; exact pr_two (by omega) (by rw [HE1.out, HE2.out]; exact T4.c6 c6) hg1 hg2 (T4.row g hrg1) (T4.kid HPX.out hbo ⟨hg1, hg2⟩ i1.1 (by omega)) (T4.kid HPY.out hbo ⟨hg1, hg2⟩ i2.1 (by omega)) i1 i2 i3, u2.trans T4.kr⟩
     clear T1 T2 c6 T3 T4
     go_wp2
     go_loopw [139] (fun u wr => (u = .int .i64 0 ∧ wr = ((W2.setCell ⟨b, o + 4, none⟩ (.bool en1)).setCell ⟨b, o + 5, none⟩ (.bool en1))) ∨ (u = .int .i64 1 ∧ wr = (((W2.setCell ⟨b, o + 4, none⟩ (.bool en1)).setCell ⟨b, o + 5, none⟩ (.bool en1)).setCell ⟨b, o + 5, none⟩ (.bool e1))) ∨ (u = .int .i64 2 ∧ wr = ((((W2.setCell ⟨b, o + 4, none⟩ (.bool en1)).setCell ⟨b, o + 5, none⟩ (.bool en1)).setCell ⟨b, o + 5, none⟩ (.bool e1)).setCell ⟨b, o + 5, none⟩ (.bool e2)))) (fun u _ => 2 - (intOf u).toNat)
     case atStart => exact .inl ⟨rfl, rfl⟩
     case round =>
       rcases hrel with ⟨rfl, rfl⟩ | ⟨rfl, rfl⟩ | ⟨rfl, rfl⟩
       · clear FIN
         cases en1 with
         | true =>
           go_wp2
           go_roundw
           case rel => exact .inr (.inl ⟨rfl, by rw [← HE1.out]; rfl⟩)
           case measure => simp [intOf]
         | false =>
           go_wp2
           go_roundw
           case rel => exact .inr (.inl ⟨rfl, by rw [← HE1.out]; rfl⟩)
           case measure => simp [intOf]
       · clear FIN
         cases e1 with
         | true =>
           go_wp2
           go_roundw
           case rel => exact .inr (.inr ⟨rfl, by rw [← HE2.out]; rfl⟩)
           case measure => simp [intOf]
         | false =>
           go_wp2
           go_roundw
           case rel => exact .inr (.inr ⟨rfl, by rw [← HE2.out]; rfl⟩)
           case measure => simp [intOf]
       · go_wp2
         go_end0
         exact FIN.out
 | false =>
   obtain rfl : go = true := by simpa using hc
   have hcall1 := ihx w0 W g 0 l1 h1 r false hx hrg (by omega) (by omega) hB (by omega) (by omega)
   go_wp2_with fail
   refine hcall1.mono ?_
   rintro e W1 ⟨rfl, px, k1⟩
   clear hcall1 c0 c2 c4 c5
   have p1 := k1.row g hrg
   have hy1 : PR w0 W1 y g 6 l2 h2 := hy.other k1 hgl (by omega) (by omega) (by omega) (by omega) (by omega)
   have B1 : Below w0.heap.size w0 W1 := k1.below hB (by omega) (by omega) (by have := hr.lt; omega)
   have s1 := k1.size
   have hcall2 := ihy w0 W1 g 6 l2 h2 r false hy1 p1 (by omega) (by omega) B1 (by omega) (by omega)
   have u1 := k1.up (b := b) (o := o) (lo := lo) (hi := hi) ⟨hg1, hg2⟩ (by omega) (by omega) hbo hb
   have d6 := h3.keep (W' := W1) (fun j _ => cell_blk (k1.blk b hb (fun e => hgb e.symm) (by omega)) _)
   have d0 := d6.c0
   have d2 := d6.c2
   go_wp2_with fail
   refine hcall2.mono ?_
   rintro e W2 ⟨rfl, py, k2⟩
   clear hcall2 d0 d2
   have px2 : PR w0 W2 (x.read r false) g 0 l1 h1 := px.other k2 p1.lt (by omega) (by omega) (by omega) (by omega) (by omega)
   have u2 := u1.trans (k2.up (b := b) (o := o) (lo := lo) (hi := hi) ⟨hg1, hg2⟩ (by omega) (by omega) hbo (by omega))
   have c6 := d6.keep (W' := W2) (fun j _ => cell_blk (k2.blk b (by omega) (fun e => hgb e.symm) (by omega)) _)
   have hr1 := u2.row b hr
   have hrg1 := u2.row g hrg
   have k2' := c6.c2
   have k4 := c6.c4
   have k5 := c6.c5
   have kf := hr1.frz (o + 4)
   obtain ⟨_, kxe, ka⟩ := px2.tell
   obtain ⟨kyn, kye, kb⟩ := py.tell
   simp only [Nat.zero_add, Nat.reduceAdd] at kxe ka kyn kye kb
   have HRD : Hid ((Ps.two 5 x y nu en true).read r false = .two 5 (x.read r false) (y.read r false) nu ((x.read r false).en || (y.read r false).en) ((x.read r false).en || (y.read r false).en || (x.read r false).go || (y.read r false).go)) := hide (by simp [Ps.read])
   have HPX := hide px2
   have HPY := hide py
   clear px py px2 ihx ihy hx hy hy1 k1 k2 B1 d6 h3 kyn
   generalize (x.read r false).en = ex at HRD kxe
   generalize (y.read r false).en = en1 at HRD kye
   generalize (x.read r false).go = ga at HRD ka
   generalize (y.read r false).go = gb at HRD kb
   cases ex with
   | true =>
     have T1 := (Top.refl k4 k5).set4 true
     rw [show (true || en1) = true from rfl] at HRD
     have T2 := T1.set5 true
     have z4 := T1.c4
     have z5 := T1.c5
     have z2 := (T1.c6 c6).c2
     have zf := (T1.row b hr1).frz (o + 5)
     have y5 := T2.c5
     have y2 := (T2.c6 c6).c2
     have yf := (T2.row b hr1).frz (o + 5)
     have yk := (cell_blk (T2.blk g hgb) 5).trans ka
     obtain ⟨e1, HE1⟩ : ∃ e1, Hid ((true || ga) = e1) := ⟨_, hide rfl⟩
     have T3 := T2.set5 e1
     have x5 := T3.c5
     have x2 := (T3.c6 c6).c2
     have xf := (T3.row b hr1).frz (o + 5)
     have xk := (cell_blk (T3.blk g hgb) 11).trans kb
     obtain ⟨e2, HE2⟩ : ∃ e2, Hid ((e1 || gb) = e2) := ⟨_, hide rfl⟩
     have T4 := T3.set5 e2
     have w5 := T4.c5
     have w2 := (T4.c6 c6).c2
     have wf := (T4.row b hr1).frz (o + 5)
     have FIN : Hid (AnsRp w0 W (.two 5 x y nu en true) b o lo hi r false (.returned (.tuple #[])) ((((W2.setCell ⟨b, o + 4, none⟩ (.bool true)).setCell ⟨b, o + 5, none⟩ (.bool true)).setCell ⟨b, o + 5, none⟩ (.bool e1)).setCell ⟨b, o + 5, none⟩ (.bool e2))) := hide (p := AnsRp w0 W (.two 5 x y nu en true) b o lo hi r false (.returned (.tuple #[])) ((((W2.setCell ⟨b, o + 4, none⟩ (.bool true)).setCell ⟨b, o + 5, none⟩ (.bool true)).setCell ⟨b, o + 5, none⟩ (.bool e1)).setCell ⟨b, o + 5, none⟩ (.bool e2))) ⟨rfl, by rw [HRD.out]; exact pr_two (by omega) (by rw [HE1.out, HE2.out]; exact T4.c6 c6) hg1 hg2 (T4.row g hrg1) (T4.kid HPX.out hbo ⟨hg1, hg2⟩ i1.1 (by omega)) (T4.kid HPY.out hbo ⟨hg1, hg2⟩ i2.1 (by omega)) i1 i2 i3, u2.trans T4.kr⟩
     clear T1 T2 c6 T3 T4
     go_wp2
     go_loopw [139] (fun u wr => (u = .int .i64 0 ∧ wr = ((W2.setCell ⟨b, o + 4, none⟩ (.bool true)).setCell ⟨b, o + 5, none⟩ (.bool true))) ∨ (u = .int .i64 1 ∧ wr = (((W2.setCell ⟨b, o + 4, none⟩ (.bool true)).setCell ⟨b, o + 5, none⟩ (.bool true)).setCell ⟨b, o + 5, none⟩ (.bool e1))) ∨ (u = .int .i64 2 ∧ wr = ((((W2.setCell ⟨b, o + 4, none⟩ (.bool true)).setCell ⟨b, o + 5, none⟩ (.bool true)).setCell ⟨b, o + 5, none⟩ (.bool e1)).setCell ⟨b, o + 5, none⟩ (.bool e2)))) (fun u _ => 2 - (intOf u).toNat)
     case atStart => exact .inl ⟨rfl, rfl⟩
     case round =>
       rcases hrel with ⟨rfl, rfl⟩ | ⟨rfl, rfl⟩ | ⟨rfl, rfl⟩
       · clear FIN
         go_wp2
         go_roundw
         case rel => exact .inr (.inl ⟨rfl, by rw [← HE1.out]; rfl⟩)
         case measure => simp [intOf]
       · clear FIN
         cases e1 with
         | true =>
           go_wp2
           go_roundw
           case rel => exact .inr (.inr ⟨rfl, by rw [← HE2.out]; rfl⟩)
           case measure => simp [intOf]
         | false =>
           go_wp2
           go_roundw
           case rel => exact .inr (.inr ⟨rfl, by rw [← HE2.out]; rfl⟩)
           case measure => simp [intOf]
       · go_wp2
         go_end0
         exact FIN.out
   | false =>
     have T1 := (Top.refl k4 k5).set4 en1
     rw [show (false || en1) = en1 from rfl] at HRD
     have T2 := T1.set5 en1
     have z4 := T1.c4
     have z5 := T1.c5
     have z2 := (T1.c6 c6).c2
     have zf := (T1.row b hr1).frz (o + 5)
     have y5 := T2.c5
     have y2 := (T2.c6 c6).c2
     have yf := (T2.row b hr1).frz (o + 5)
     have yk := (cell_blk (T2.blk g hgb) 5).trans ka
     obtain ⟨e1, HE1⟩ : ∃ e1, Hid ((en1 || ga) = e1) := ⟨_, hide rfl⟩
     have T3 := T2.set5 e1
     have x5 := T3.c5
     have x2 := (T3.c6 c6).c2
     have xf := (T3.row b hr1).frz (o + 5)
     have xk := (cell_blk (T3.blk g hgb) 11).trans kb
     obtain ⟨e2, HE2⟩ : ∃ e2, Hid ((e1 || gb) = e2) := ⟨_, hide rfl⟩
     have T4 := T3.set5 e2
     have w5 := T4.c5
     have w2 := (T4.c6 c6).c2
     have wf := (T4.row b hr1).frz (o + 5)
     have FIN : Hid (AnsRp w0 W (.two 5 x y nu en true) b o lo hi r false (.returned (.tuple #[])) ((((W2.setCell ⟨b, o + 4, none⟩ (.bool en1)).setCell ⟨b, o + 5, none⟩ (.bool en1)).setCell ⟨b, o + 5, none⟩ (.bool e1)).setCell ⟨b, o + 5, none⟩ (.bool e2))) := hide (p := AnsRp w0 W (.two 5 x y nu en true) b o lo hi r false (.returned (.tuple #[])) ((((W2.setCell ⟨b, o + 4, none⟩ (.bool en1)).setCell ⟨b, o + 5, none⟩ (.bool en1)).setCell ⟨b, o + 5, none⟩ (.bool e1)).setCell ⟨b, o + 5, none⟩ (.bool e2))) ⟨rfl, by rw [HRD.out]; exact pr_two (by omega) (by rw [HE1.out, HE2.out]; exact T4.c6 c6) hg1 hg2 (T4.row g hrg1) (T4.kid HPX.out hbo ⟨hg1, hg2⟩ i1.1 (by omega)) (T4.kid HPY.out hbo ⟨hg1, hg2⟩ i2.1 (by omega)) i1 i2 i3, u2.trans T4.kr⟩
     clear T1 T2 c6 T3 T4
     go_wp2
     go_loopw [139] (fun u wr => (u = .int .i64 0 ∧ wr = ((W2.setCell ⟨b, o + 4, none⟩ (.bool en1)).setCell ⟨b, o + 5, none⟩ (.bool en1))) ∨ (u = .int .i64 1 ∧ wr = (((W2.setCell ⟨b, o + 4, none⟩ (.bool en1)).setCell ⟨b, o + 5, none⟩ (.bool en1)).setCell ⟨b, o + 5, none⟩ (.bool e1))) ∨ (u = .int .i64 2 ∧ wr = ((((W2.setCell ⟨b, o + 4, none⟩ (.bool en1)).setCell ⟨b, o + 5, none⟩ (.bool en1)).setCell ⟨b, o + 5, none⟩ (.bool e1)).setCell ⟨b, o + 5, none⟩ (.bool e2)))) (fun u _ => 2 - (intOf u).toNat)
     case atStart => exact .inl ⟨rfl, rfl⟩
     case round =>
       rcases hrel with ⟨rfl, rfl⟩ | ⟨rfl, rfl⟩ | ⟨rfl, rfl⟩
       · clear FIN
         cases en1 with
         | true =>
           go_wp2
           go_roundw
           case rel => exact .inr (.inl ⟨rfl, by rw [← HE1.out]; rfl⟩)
           case measure => simp [intOf]
         | false =>
           go_wp2
           go_roundw
           case rel => exact .inr (.inl ⟨rfl, by rw [← HE1.out]; rfl⟩)
           case measure => simp [intOf]
       · clear FIN
         cases e1 with
         | true =>
           go_wp2
           go_roundw
           case rel => exact .inr (.inr ⟨rfl, by rw [← HE2.out]; rfl⟩)
           case measure => simp [intOf]
         | false =>
           go_wp2
           go_roundw
           case rel => exact .inr (.inr ⟨rfl, by rw [← HE2.out]; rfl⟩)
           case measure => simp [intOf]
       · go_wp2
         go_end0
         exact FIN.out
def AnsB (w0 W : World) (x y : Ps) (nu en go : Bool) (b o lo hi : Nat) (r : Int) (bg : Bool) (e : Ending) (W' : World) : Prop :=
 e = .returned (.tuple #[]) ∧ ∃ sv g kc l1 h1 l2 h2 W2, lo ≤ g ∧ g < hi ∧ Row W2 g ∧ (lo ≤ l1 ∧ h1 ≤ hi ∧ (g < l1 ∨ h1 ≤ g)) ∧ (lo ≤ l2 ∧ h2 ≤ hi ∧ (g < l2 ∨ h2 ≤ g)) ∧ (h1 ≤ l2 ∨ h2 ≤ l1) ∧ PR w0 W2 (x.read r bg) g 0 l1 h1 ∧ PR w0 W2 (y.read r (bg && x.nu || x.en)) g 6 l2 h2 ∧
   C6 W2 b o 4 sv (.slice (some ⟨g, 0, none⟩) 2 kc) nu en go ∧ Kr b o lo hi W W2 ∧ W' = W2.setCell ⟨b, o + 4, none⟩ (.bool ((y.read r (bg && x.nu || x.en)).en || (x.read r bg).en && (y.read r (bg && x.nu || x.en)).nu))
set_option maxRecDepth 100000 in
set_option maxHeartbeats 2000000 in
theorem both_any (w0 W : World) (b o lo hi : Nat) (r : Int) (bg : Bool) (x y : Ps) (nu en go : Bool) (ihx : RdC x) (ihy : RdC y) (h : PR w0 W (.two 4 x y nu en go) b o lo hi) (hr : Row W b) (hbo : b < lo ∨ hi ≤ b) (hhi : hi ≤ W.heap.size) (hB : Below w0.heap.size w0 W) (hlo : w0.heap.size ≤ lo) (_hwb : w0.heap.size ≤ b) :
   Calls Tryz.prog 120 #[.pointer (some ⟨b, o, none⟩), .int .i32 r, .bool bg] W (AnsB w0 W x y nu en go b o lo hi r bg) := by
 unfold PR at h
 obtain ⟨_, sv, g, kc, l1, h1, l2, h2, h3, hg1, hg2, hrg, hx, hy, i1, i2, i3⟩ := h
 have c0 := h3.c0
 have c2 := h3.c2
 have c4 := h3.c4
 have c5 := h3.c5
 have hb := hr.lt
 have hgl := hrg.lt
 have hgb : g ≠ b := by omega
 obtain ⟨xn, xe, _⟩ := hx.tell
 simp only [Nat.zero_add] at xn xe
 have es := elemSize145
 go_enter Tryz.func120, Tryz.ntmps120
 cases bg with
 | true =>
   cases hn : x.nu with
   | true =>
     rw [hn] at xn
     have hcall1 : ∀ n, Calls Tryz.prog 93 #[.pointer (some ⟨g, 0, none⟩), .int .i32 r, .bool true] (W.drewN n) (AnsRp w0 (W.drewN n) x g 0 l1 h1 r true) := fun n => ihx w0 (W.drewN n) g 0 l1 h1 r true (hx.keep (fun _ _ => rfl) (fun _ _ _ => rfl)) hrg (by omega) (show h1 ≤ W.heap.size by omega) (below_drewN hB n) (by omega) (by omega)
     go_wp2_with fail
     go_quiet (fail)
     go_wp2_with fail
     refine (hcall1 _).mono ?_
     rintro e W1 ⟨rfl, px, k1'⟩
     have k1 : Kr g 0 l1 h1 W W1 := ⟨k1'.os, k1'.tape, k1'.output, k1'.size, k1'.blk, k1'.cell, k1'.row⟩
     clear k1'
     clear hcall1 c0 c2 c4 c5 xn xe
     have p1 := k1.row g hrg
     have hy1 : PR w0 W1 y g 6 l2 h2 := hy.other k1 hgl (by omega) (by omega) (by omega) (by omega) (by omega)
     have B1 : Below w0.heap.size w0 W1 := k1.below hB (by omega) (by omega) (by have := hr.lt; omega)
     have s1 := k1.size
     have hcall2 := ihy w0 W1 g 6 l2 h2 r true hy1 p1 (by omega) (by omega) B1 (by omega) (by omega)
     have u1 := k1.up (b := b) (o := o) (lo := lo) (hi := hi) ⟨hg1, hg2⟩ (by omega) (by omega) hbo hb
     have d6 := h3.keep (W' := W1) (fun j _ => cell_blk (k1.blk b hb (fun e => hgb e.symm) (by omega)) _)
     have d0 := d6.c0
     have d2 := d6.c2
     go_wp2_with fail
     refine hcall2.mono ?_
     rintro e W2 ⟨rfl, py, k2⟩
     clear hcall2 d0 d2
     have px2 : PR w0 W2 (x.read r true) g 0 l1 h1 := px.other k2 p1.lt (by omega) (by omega) (by omega) (by omega) (by omega)
     have u2 := u1.trans (k2.up (b := b) (o := o) (lo := lo) (hi := hi) ⟨hg1, hg2⟩ (by omega) (by omega) hbo (by omega))
     have c6 := d6.keep (W' := W2) (fun j _ => cell_blk (k2.blk b (by omega) (fun e => hgb e.symm) (by omega)) _)
     have hr1 := u2.row b hr
     have hrg1 := u2.row g hrg
     have k2' := c6.c2
     have k4 := c6.c4
     have k5 := c6.c5
     have kf := hr1.frz (o + 4)
     obtain ⟨_, kxe, ka⟩ := px2.tell
     obtain ⟨kyn, kye, kb⟩ := py.tell
     simp only [Nat.zero_add, Nat.reduceAdd] at kxe ka kyn kye kb
     have HPX := hide px2
     have HPY := hide py
     have HFL : Hid ((true && x.nu || x.en) = true) := hide (by simp [hn])
     clear px py px2 ihx ihy hx hy hy1 k1 k2 B1 d6 h3
     have fin : ∀ q, ((y.read r true).en || (x.read r true).en && (y.read r true).nu) = q → AnsB w0 W x y nu en go b o lo hi r true (.returned (.tuple #[])) (W2.setCell ⟨b, o + 4, none⟩ (.bool q)) := by
       rintro q rfl
       refine ⟨rfl, sv, g, kc, l1, h1, l2, h2, W2, hg1, hg2, hrg1, i1, i2, i3, HPX.out, ?_, c6, u2, ?_⟩
       · rw [HFL.out]; exact HPY.out
       · rw [HFL.out]
     have FIN := hide fin
     clear fin
     generalize (y.read r true).en = ey at kye FIN
     generalize (x.read r true).en = ex at kxe FIN
     generalize (y.read r true).nu = yn at kyn FIN
     cases ey with
     | true =>
       go_wp2
       go_end0
       exact FIN.out true rfl
     | false =>
       cases ex with
       | true =>
         go_wp2
         go_end0
         exact FIN.out yn (by simp)
       | false =>
         go_wp2
         go_end0
         exact FIN.out false (by simp)
   | false =>
     rw [hn] at xn
     have hcall1 : ∀ n, Calls Tryz.prog 93 #[.pointer (some ⟨g, 0, none⟩), .int .i32 r, .bool true] (W.drewN n) (AnsRp w0 (W.drewN n) x g 0 l1 h1 r true) := fun n => ihx w0 (W.drewN n) g 0 l1 h1 r true (hx.keep (fun _ _ => rfl) (fun _ _ _ => rfl)) hrg (by omega) (show h1 ≤ W.heap.size by omega) (below_drewN hB n) (by omega) (by omega)
     go_wp2_with fail
     go_quiet (fail)
     go_wp2_with fail
     refine (hcall1 _).mono ?_
     rintro e W1 ⟨rfl, px, k1'⟩
     have k1 : Kr g 0 l1 h1 W W1 := ⟨k1'.os, k1'.tape, k1'.output, k1'.size, k1'.blk, k1'.cell, k1'.row⟩
     clear k1'
     clear hcall1 c0 c2 c4 c5 xn xe
     have p1 := k1.row g hrg
     have hy1 : PR w0 W1 y g 6 l2 h2 := hy.other k1 hgl (by omega) (by omega) (by omega) (by omega) (by omega)
     have B1 : Below w0.heap.size w0 W1 := k1.below hB (by omega) (by omega) (by have := hr.lt; omega)
     have s1 := k1.size
     have hcall2 := ihy w0 W1 g 6 l2 h2 r x.en hy1 p1 (by omega) (by omega) B1 (by omega) (by omega)
     have u1 := k1.up (b := b) (o := o) (lo := lo) (hi := hi) ⟨hg1, hg2⟩ (by omega) (by omega) hbo hb
     have d6 := h3.keep (W' := W1) (fun j _ => cell_blk (k1.blk b hb (fun e => hgb e.symm) (by omega)) _)
     have d0 := d6.c0
     have d2 := d6.c2
     go_wp2_with fail
     refine hcall2.mono ?_
     rintro e W2 ⟨rfl, py, k2⟩
     clear hcall2 d0 d2
     have px2 : PR w0 W2 (x.read r true) g 0 l1 h1 := px.other k2 p1.lt (by omega) (by omega) (by omega) (by omega) (by omega)
     have u2 := u1.trans (k2.up (b := b) (o := o) (lo := lo) (hi := hi) ⟨hg1, hg2⟩ (by omega) (by omega) hbo (by omega))
     have c6 := d6.keep (W' := W2) (fun j _ => cell_blk (k2.blk b (by omega) (fun e => hgb e.symm) (by omega)) _)
     have hr1 := u2.row b hr
     have hrg1 := u2.row g hrg
     have k2' := c6.c2
     have k4 := c6.c4
     have k5 := c6.c5
     have kf := hr1.frz (o + 4)
     obtain ⟨_, kxe, ka⟩ := px2.tell
     obtain ⟨kyn, kye, kb⟩ := py.tell
     simp only [Nat.zero_add, Nat.reduceAdd] at kxe ka kyn kye kb
     have HPX := hide px2
     have HPY := hide py
     have HFL : Hid ((true && x.nu || x.en) = x.en) := hide (by simp [hn])
     clear px py px2 ihx ihy hx hy hy1 k1 k2 B1 d6 h3
     have fin : ∀ q, ((y.read r x.en).en || (x.read r true).en && (y.read r x.en).nu) = q → AnsB w0 W x y nu en go b o lo hi r true (.returned (.tuple #[])) (W2.setCell ⟨b, o + 4, none⟩ (.bool q)) := by
       rintro q rfl
       refine ⟨rfl, sv, g, kc, l1, h1, l2, h2, W2, hg1, hg2, hrg1, i1, i2, i3, HPX.out, ?_, c6, u2, ?_⟩
       · rw [HFL.out]; exact HPY.out
       · rw [HFL.out]
     have FIN := hide fin
     clear fin
     generalize (y.read r x.en).en = ey at kye FIN
     generalize (x.read r true).en = ex at kxe FIN
     generalize (y.read r x.en).nu = yn at kyn FIN
     cases ey with
     | true =>
       go_wp2
       go_end0
       exact FIN.out true rfl
     | false =>
       cases ex with
       | true =>
         go_wp2
         go_end0
         exact FIN.out yn (by simp)
       | false =>
         go_wp2
         go_end0
         exact FIN.out false (by simp)
 | false =>
   have hcall1 : ∀ n, Calls Tryz.prog 93 #[.pointer (some ⟨g, 0, none⟩), .int .i32 r, .bool false] (W.drewN n) (AnsRp w0 (W.drewN n) x g 0 l1 h1 r false) := fun n => ihx w0 (W.drewN n) g 0 l1 h1 r false (hx.keep (fun _ _ => rfl) (fun _ _ _ => rfl)) hrg (by omega) (show h1 ≤ W.heap.size by omega) (below_drewN hB n) (by omega) (by omega)
   go_wp2_with fail
   go_quiet (fail)
   go_wp2_with fail
   refine (hcall1 _).mono ?_
   rintro e W1 ⟨rfl, px, k1'⟩
   have k1 : Kr g 0 l1 h1 W W1 := ⟨k1'.os, k1'.tape, k1'.output, k1'.size, k1'.blk, k1'.cell, k1'.row⟩
   clear k1'
   clear hcall1 c0 c2 c4 c5 xn xe
   have p1 := k1.row g hrg
   have hy1 : PR w0 W1 y g 6 l2 h2 := hy.other k1 hgl (by omega) (by omega) (by omega) (by omega) (by omega)
   have B1 : Below w0.heap.size w0 W1 := k1.below hB (by omega) (by omega) (by have := hr.lt; omega)
   have s1 := k1.size
   have hcall2 := ihy w0 W1 g 6 l2 h2 r x.en hy1 p1 (by omega) (by omega) B1 (by omega) (by omega)
   have u1 := k1.up (b := b) (o := o) (lo := lo) (hi := hi) ⟨hg1, hg2⟩ (by omega) (by omega) hbo hb
   have d6 := h3.keep (W' := W1) (fun j _ => cell_blk (k1.blk b hb (fun e => hgb e.symm) (by omega)) _)
   have d0 := d6.c0
   have d2 := d6.c2
   go_wp2_with fail
   refine hcall2.mono ?_
   rintro e W2 ⟨rfl, py, k2⟩
   clear hcall2 d0 d2
   have px2 : PR w0 W2 (x.read r false) g 0 l1 h1 := px.other k2 p1.lt (by omega) (by omega) (by omega) (by omega) (by omega)
   have u2 := u1.trans (k2.up (b := b) (o := o) (lo := lo) (hi := hi) ⟨hg1, hg2⟩ (by omega) (by omega) hbo (by omega))
   have c6 := d6.keep (W' := W2) (fun j _ => cell_blk (k2.blk b (by omega) (fun e => hgb e.symm) (by omega)) _)
   have hr1 := u2.row b hr
   have hrg1 := u2.row g hrg
   have k2' := c6.c2
   have k4 := c6.c4
   have k5 := c6.c5
   have kf := hr1.frz (o + 4)
   obtain ⟨_, kxe, ka⟩ := px2.tell
   obtain ⟨kyn, kye, kb⟩ := py.tell
   simp only [Nat.zero_add, Nat.reduceAdd] at kxe ka kyn kye kb
   have HPX := hide px2
   have HPY := hide py
   have HFL : Hid ((false && x.nu || x.en) = x.en) := hide (by simp)
   clear px py px2 ihx ihy hx hy hy1 k1 k2 B1 d6 h3
   have fin : ∀ q, ((y.read r x.en).en || (x.read r false).en && (y.read r x.en).nu) = q → AnsB w0 W x y nu en go b o lo hi r false (.returned (.tuple #[])) (W2.setCell ⟨b, o + 4, none⟩ (.bool q)) := by
     rintro q rfl
     refine ⟨rfl, sv, g, kc, l1, h1, l2, h2, W2, hg1, hg2, hrg1, i1, i2, i3, HPX.out, ?_, c6, u2, ?_⟩
     · rw [HFL.out]; exact HPY.out
     · rw [HFL.out]
   have FIN := hide fin
   clear fin
   generalize (y.read r x.en).en = ey at kye FIN
   generalize (x.read r false).en = ex at kxe FIN
   generalize (y.read r x.en).nu = yn at kyn FIN
   cases ey with
   | true =>
     go_wp2
     go_end0
     exact FIN.out true rfl
   | false =>
     cases ex with
     | true =>
       go_wp2
       go_end0
       exact FIN.out yn (by simp)
     | false =>
       go_wp2
       go_end0
       exact FIN.out false (by simp)
set_option maxRecDepth 100000 in
set_option maxHeartbeats 2000000 in
theorem read_cat (w0 W : World) (b o lo hi : Nat) (r : Int) (bg : Bool) (x y : Ps) (nu en go : Bool) (ihx : RdC x) (ihy : RdC y) (h : PR w0 W (.two 4 x y nu en go) b o lo hi) (hc : (!bg && !go) = false) (hr : Row W b) (hbo : b < lo ∨ hi ≤ b) (hhi : hi ≤ W.heap.size) (hB : Below w0.heap.size w0 W) (hlo : w0.heap.size ≤ lo) (hwb : w0.heap.size ≤ b) :
   Calls Tryz.prog 93 #[.pointer (some ⟨b, o, none⟩), .int .i32 r, .bool bg] W (AnsRp w0 W (.two 4 x y nu en go) b o lo hi r bg) := by
 have c05 : W.cell? ⟨b, o, none⟩ = some (.int .i64 4) ∧ W.cell? ⟨b, o + 5, none⟩ = some (.bool go) := by
   unfold PR at h
   obtain ⟨_, sv, g, kc, l1, h1, l2, h2, h3, _⟩ := h
   exact ⟨h3.c0, h3.c5⟩
 obtain ⟨c0, c5⟩ := c05
 have es := elemSize145
 go_enter Tryz.func93, Tryz.ntmps93
 cases bg with
 | true =>
   have hcall := both_any w0 W b o lo hi r true x y nu en go ihx ihy h hr hbo hhi hB hlo hwb
   go_wp2_with fail
   refine hcall.mono ?_
   rintro e W' ⟨rfl, sv', g, kc, l1, h1, l2, h2, W2, hg1, hg2, hrg1, i1, i2, i3, px, py, c6, u2, rfl⟩
   clear hcall c0 c5 h
   have hgb : g ≠ b := by omega
   have hr1 := u2.row b hr
   have k4 := c6.c4
   have k5 := c6.c5
   have ka := px.tell.2.2
   have kb := py.tell.2.2
   simp only [Nat.zero_add, Nat.reduceAdd] at ka kb
   have HRD : Hid ((Ps.two 4 x y nu en go).read r true = .two 4 (x.read r true) (y.read r (true && x.nu || x.en)) nu ((y.read r (true && x.nu || x.en)).en || (x.read r true).en && (y.read r (true && x.nu || x.en)).nu) (((y.read r (true && x.nu || x.en)).en || (x.read r true).en && (y.read r (true && x.nu || x.en)).nu) || (x.read r true).go || (y.read r (true && x.nu || x.en)).go)) := hide (by simp [Ps.read])
   have HPX := hide px
   have HPY := hide py
   clear px py ihx ihy
   generalize ((y.read r (true && x.nu || x.en)).en || (x.read r true).en && (y.read r (true && x.nu || x.en)).nu) = en1 at HRD ⊢
   generalize (x.read r true).go = ga at HRD ka
   generalize (y.read r (true && x.nu || x.en)).go = gb at HRD kb
   have T1 := (Top.refl k4 k5).set4 en1
   have T2 := T1.set5 en1
   have z4 := T1.c4
   have z5 := T1.c5
   have z2 := (T1.c6 c6).c2
   have zf := (T1.row b hr1).frz (o + 5)
   have y5 := T2.c5
   have y2 := (T2.c6 c6).c2
   have yf := (T2.row b hr1).frz (o + 5)
   have yk := (cell_blk (T2.blk g hgb) 5).trans ka
   obtain ⟨e1, HE1⟩ : ∃ e1, Hid ((en1 || ga) = e1) := ⟨_, hide rfl⟩
   have T3 := T2.set5 e1
   have x5 := T3.c5
   have x2 := (T3.c6 c6).c2
   have xf := (T3.row b hr1).frz (o + 5)
   have xk := (cell_blk (T3.blk g hgb) 11).trans kb
   obtain ⟨e2, HE2⟩ : ∃ e2, Hid ((e1 || gb) = e2) := ⟨_, hide rfl⟩
   have T4 := T3.set5 e2
   have w5 := T4.c5
   have w2 := (T4.c6 c6).c2
   have wf := (T4.row b hr1).frz (o + 5)
   have FIN : Hid (AnsRp w0 W (.two 4 x y nu en go) b o lo hi r true (.returned (.tuple #[])) ((((W2.setCell ⟨b, o + 4, none⟩ (.bool en1)).setCell ⟨b, o + 5, none⟩ (.bool en1)).setCell ⟨b, o + 5, none⟩ (.bool e1)).setCell ⟨b, o + 5, none⟩ (.bool e2))) := hide (p := AnsRp w0 W (.two 4 x y nu en go) b o lo hi r true (.returned (.tuple #[])) ((((W2.setCell ⟨b, o + 4, none⟩ (.bool en1)).setCell ⟨b, o + 5, none⟩ (.bool en1)).setCell ⟨b, o + 5, none⟩ (.bool e1)).setCell ⟨b, o + 5, none⟩ (.bool e2))) ⟨rfl, by rw [HRD.out]; exact pr_two (by omega) (by rw [HE1.out, HE2.out]; exact T4.c6 c6) hg1 hg2 (T4.row g hrg1) (T4.kid HPX.out hbo ⟨hg1, hg2⟩ i1.1 (by omega)) (T4.kid HPY.out hbo ⟨hg1, hg2⟩ i2.1 (by omega)) i1 i2 i3, u2.trans T4.kr⟩
   clear T1 T2 c6 T3 T4
   go_wp2
   go_loopw [139] (fun u wr => (u = .int .i64 0 ∧ wr = ((W2.setCell ⟨b, o + 4, none⟩ (.bool en1)).setCell ⟨b, o + 5, none⟩ (.bool en1))) ∨ (u = .int .i64 1 ∧ wr = (((W2.setCell ⟨b, o + 4, none⟩ (.bool en1)).setCell ⟨b, o + 5, none⟩ (.bool en1)).setCell ⟨b, o + 5, none⟩ (.bool e1))) ∨ (u = .int .i64 2 ∧ wr = ((((W2.setCell ⟨b, o + 4, none⟩ (.bool en1)).setCell ⟨b, o + 5, none⟩ (.bool en1)).setCell ⟨b, o + 5, none⟩ (.bool e1)).setCell ⟨b, o + 5, none⟩ (.bool e2)))) (fun u _ => 2 - (intOf u).toNat)
   case atStart => exact .inl ⟨rfl, rfl⟩
   case round =>
     rcases hrel with ⟨rfl, rfl⟩ | ⟨rfl, rfl⟩ | ⟨rfl, rfl⟩
     · clear FIN
       cases en1 with
       | true =>
         go_wp2
         go_roundw
         case rel => exact .inr (.inl ⟨rfl, by rw [← HE1.out]; rfl⟩)
         case measure => simp [intOf]
       | false =>
         go_wp2
         go_roundw
         case rel => exact .inr (.inl ⟨rfl, by rw [← HE1.out]; rfl⟩)
         case measure => simp [intOf]
     · clear FIN
       cases e1 with
       | true =>
         go_wp2
         go_roundw
         case rel => exact .inr (.inr ⟨rfl, by rw [← HE2.out]; rfl⟩)
         case measure => simp [intOf]
       | false =>
         go_wp2
         go_roundw
         case rel => exact .inr (.inr ⟨rfl, by rw [← HE2.out]; rfl⟩)
         case measure => simp [intOf]
     · go_wp2
       go_end0
       exact FIN.out
 | false =>
   obtain rfl : go = true := by simpa using hc
   have hcall := both_any w0 W b o lo hi r false x y nu en true ihx ihy h hr hbo hhi hB hlo hwb
   go_wp2_with fail
   refine hcall.mono ?_
   rintro e W' ⟨rfl, sv', g, kc, l1, h1, l2, h2, W2, hg1, hg2, hrg1, i1, i2, i3, px, py, c6, u2, rfl⟩
   clear hcall c0 c5 h
   have hgb : g ≠ b := by omega
   have hr1 := u2.row b hr
   have k4 := c6.c4
   have k5 := c6.c5
   have ka := px.tell.2.2
   have kb := py.tell.2.2
   simp only [Nat.zero_add, Nat.reduceAdd] at ka kb
   have HRD : Hid ((Ps.two 4 x y nu en true).read r false = .two 4 (x.read r false) (y.read r (false && x.nu || x.en)) nu ((y.read r (false && x.nu || x.en)).en || (x.read r false).en && (y.read r (false && x.nu || x.en)).nu) (((y.read r (false && x.nu || x.en)).en || (x.read r false).en && (y.read r (false && x.nu || x.en)).nu) || (x.read r false).go || (y.read r (false && x.nu || x.en)).go)) := hide (by simp [Ps.read])
   have HPX := hide px
   have HPY := hide py
   clear px py ihx ihy
   generalize ((y.read r (false && x.nu || x.en)).en || (x.read r false).en && (y.read r (false && x.nu || x.en)).nu) = en1 at HRD ⊢
   generalize (x.read r false).go = ga at HRD ka
   generalize (y.read r (false && x.nu || x.en)).go = gb at HRD kb
   have T1 := (Top.refl k4 k5).set4 en1
   have T2 := T1.set5 en1
   have z4 := T1.c4
   have z5 := T1.c5
   have z2 := (T1.c6 c6).c2
   have zf := (T1.row b hr1).frz (o + 5)
   have y5 := T2.c5
   have y2 := (T2.c6 c6).c2
   have yf := (T2.row b hr1).frz (o + 5)
   have yk := (cell_blk (T2.blk g hgb) 5).trans ka
   obtain ⟨e1, HE1⟩ : ∃ e1, Hid ((en1 || ga) = e1) := ⟨_, hide rfl⟩
   have T3 := T2.set5 e1
   have x5 := T3.c5
   have x2 := (T3.c6 c6).c2
   have xf := (T3.row b hr1).frz (o + 5)
   have xk := (cell_blk (T3.blk g hgb) 11).trans kb
   obtain ⟨e2, HE2⟩ : ∃ e2, Hid ((e1 || gb) = e2) := ⟨_, hide rfl⟩
   have T4 := T3.set5 e2
   have w5 := T4.c5
   have w2 := (T4.c6 c6).c2
   have wf := (T4.row b hr1).frz (o + 5)
   have FIN : Hid (AnsRp w0 W (.two 4 x y nu en true) b o lo hi r false (.returned (.tuple #[])) ((((W2.setCell ⟨b, o + 4, none⟩ (.bool en1)).setCell ⟨b, o + 5, none⟩ (.bool en1)).setCell ⟨b, o + 5, none⟩ (.bool e1)).setCell ⟨b, o + 5, none⟩ (.bool e2))) := hide (p := AnsRp w0 W (.two 4 x y nu en true) b o lo hi r false (.returned (.tuple #[])) ((((W2.setCell ⟨b, o + 4, none⟩ (.bool en1)).setCell ⟨b, o + 5, none⟩ (.bool en1)).setCell ⟨b, o + 5, none⟩ (.bool e1)).setCell ⟨b, o + 5, none⟩ (.bool e2))) ⟨rfl, by rw [HRD.out]; exact pr_two (by omega) (by rw [HE1.out, HE2.out]; exact T4.c6 c6) hg1 hg2 (T4.row g hrg1) (T4.kid HPX.out hbo ⟨hg1, hg2⟩ i1.1 (by omega)) (T4.kid HPY.out hbo ⟨hg1, hg2⟩ i2.1 (by omega)) i1 i2 i3, u2.trans T4.kr⟩
   clear T1 T2 c6 T3 T4
   go_wp2
   go_loopw [139] (fun u wr => (u = .int .i64 0 ∧ wr = ((W2.setCell ⟨b, o + 4, none⟩ (.bool en1)).setCell ⟨b, o + 5, none⟩ (.bool en1))) ∨ (u = .int .i64 1 ∧ wr = (((W2.setCell ⟨b, o + 4, none⟩ (.bool en1)).setCell ⟨b, o + 5, none⟩ (.bool en1)).setCell ⟨b, o + 5, none⟩ (.bool e1))) ∨ (u = .int .i64 2 ∧ wr = ((((W2.setCell ⟨b, o + 4, none⟩ (.bool en1)).setCell ⟨b, o + 5, none⟩ (.bool en1)).setCell ⟨b, o + 5, none⟩ (.bool e1)).setCell ⟨b, o + 5, none⟩ (.bool e2)))) (fun u _ => 2 - (intOf u).toNat)
   case atStart => exact .inl ⟨rfl, rfl⟩
   case round =>
     rcases hrel with ⟨rfl, rfl⟩ | ⟨rfl, rfl⟩ | ⟨rfl, rfl⟩
     · clear FIN
       cases en1 with
       | true =>
         go_wp2
         go_roundw
         case rel => exact .inr (.inl ⟨rfl, by rw [← HE1.out]; rfl⟩)
         case measure => simp [intOf]
       | false =>
         go_wp2
         go_roundw
         case rel => exact .inr (.inl ⟨rfl, by rw [← HE1.out]; rfl⟩)
         case measure => simp [intOf]
     · clear FIN
       cases e1 with
       | true =>
         go_wp2
         go_roundw
         case rel => exact .inr (.inr ⟨rfl, by rw [← HE2.out]; rfl⟩)
         case measure => simp [intOf]
       | false =>
         go_wp2
         go_roundw
         case rel => exact .inr (.inr ⟨rfl, by rw [← HE2.out]; rfl⟩)
         case measure => simp [intOf]
     · go_wp2
       go_end0
       exact FIN.out
theorem readP_any : ∀ p : Ps, RdC p
 | .leaf k s nu en go => by
   intro w0 W b o lo hi r bg h hr hbo hhi hB hlo hwb
   by_cases hc : (!bg && !go) = true
   · obtain ⟨rfl, rfl⟩ : bg = false ∧ go = false := by simpa using hc
     refine (read_skip W b o r h.tell.2.2).mono ?_
     rintro e W' ⟨rfl, rfl⟩
     exact ⟨rfl, by rw [Ps.read, if_pos hc]; exact h, Kr.refl _ _ _ _ _⟩
   · have hc' : (!bg && !go) = false := by simpa using hc
     have hk : k = 1 ∨ k = 3 := by unfold PR at h; exact h.1
     rcases hk with rfl | rfl
     · cases bg with
       | true => exact read_set1 w0 W b o lo hi r s nu en go h hr hbo hhi hB hlo hwb
       | false =>
         obtain rfl : go = true := by simpa using hc'
         exact read_set2 w0 W b o lo hi r s nu en h hr hbo hhi hB hlo hwb
     · exact read_none w0 W b o lo hi r bg s nu en go h hc' hr hbo hhi hB hlo hwb
 | .one k a nu en go => by
   intro w0 W b o lo hi r bg h hr hbo hhi hB hlo hwb
   by_cases hc : (!bg && !go) = true
   · obtain ⟨rfl, rfl⟩ : bg = false ∧ go = false := by simpa using hc
     refine (read_skip W b o r h.tell.2.2).mono ?_
     rintro e W' ⟨rfl, rfl⟩
     exact ⟨rfl, by rw [Ps.read, if_pos hc]; exact h, Kr.refl _ _ _ _ _⟩
   · have hc' : (!bg && !go) = false := by simpa using hc
     have hk : k = 6 ∨ k = 7 ∨ k = 8 := by unfold PR at h; exact h.1
     rcases hk with rfl | rfl | rfl
     · exact read_one6 w0 W b o lo hi r bg a nu en go (readP_any a) h hc' hr hbo hhi hB hlo hwb
     · exact read_one7 w0 W b o lo hi r bg a nu en go (readP_any a) h hc' hr hbo hhi hB hlo hwb
     · exact read_one8 w0 W b o lo hi r bg a nu en go (readP_any a) h hc' hr hbo hhi hB hlo hwb
 | .two k x y nu en go => by
   intro w0 W b o lo hi r bg h hr hbo hhi hB hlo hwb
   by_cases hc : (!bg && !go) = true
   · obtain ⟨rfl, rfl⟩ : bg = false ∧ go = false := by simpa using hc
     refine (read_skip W b o r h.tell.2.2).mono ?_
     rintro e W' ⟨rfl, rfl⟩
     exact ⟨rfl, by rw [Ps.read, if_pos hc]; exact h, Kr.refl _ _ _ _ _⟩
   · have hc' : (!bg && !go) = false := by simpa using hc
     have hk : k = 4 ∨ k = 5 := by unfold PR at h; exact h.1
     rcases hk with rfl | rfl
     · exact read_cat w0 W b o lo hi r bg x y nu en go (readP_any x) (readP_any y) h hc' hr hbo hhi hB hlo hwb
     · exact read_alt w0 W b o lo hi r bg x y nu en go (readP_any x) (readP_any y) h hc' hr hbo hhi hB hlo hwb
end Go.Proofs.YtemanednddhfaaaGreatDoor
namespace Go.Proofs.YtemanednddhfaaaGreatDoor
open Go.RowKit Go.Shelf
open E (Ps Rx T rxOf Vp)
attribute [local go_sem] Oper.semAt_some
def Ow (pb : Nat) (W : World) (k : Nat) : Prop := ∃ v t f, W.heap[pb]? = some (.cells #[v] t f) ∧ v.ownBlock = some k
theorem Ow.of {pb : Nat} {W W' : World} (h : W'.heap[pb]? = W.heap[pb]?) {k : Nat} (ho : Ow pb W' k) : Ow pb W k := by
 unfold Ow at ho ⊢
 rw [h] at ho
 exact ho
structure KpO (pb n : Nat) (W W' : World) : Prop where
 below : Below n W W'
 own : ∀ k, k < W.heap.size → Ow pb W k → W'.heap[k]? = W.heap[k]?
theorem KpO.refl (pb n : Nat) (W : World) : KpO pb n W W := ⟨Below.refl _ _, fun _ _ _ => rfl⟩
theorem KpO.of {pb n : Nat} {W W' : World} (h : Below W.heap.size W W') (hn : n ≤ W.heap.size) : KpO pb n W W' := ⟨h.mono hn, fun k hk _ => h.block k hk⟩
theorem KpO.mono {pb n m : Nat} {W W' : World} (h : KpO pb n W W') (hm : m ≤ n) : KpO pb m W W' := ⟨h.below.mono hm, h.own⟩
theorem KpO.trans {pb n : Nat} {a b c : World} (hp : pb < n) (h : KpO pb n a b) (k : KpO pb n b c) : KpO pb n a c :=
 ⟨h.below.trans k.below, fun i hi ho => by
   have ho' : Ow pb b i := ho.of (W' := a) (W := b) (h.below.block pb hp).symm
   exact (k.own i (Nat.lt_of_lt_of_le hi h.below.size) ho').trans (h.own i hi ho)⟩
theorem KpO.put {pb n x : Nat} {W W' : World} (h : KpO pb n W W') (hx : n ≤ x) (ho : ¬ Ow pb W x) (o' : Obj) : KpO pb n W (W'.putObj x o') :=
 ⟨h.below.trans ⟨rfl, rfl, rfl, by rw [World.putObj_size]; exact Nat.le_refl _, fun j hj => World.putObj_heap_other (by omega)⟩, fun k hk hk' => by
   have hne : k ≠ x := by rintro rfl; exact ho hk'
   exact (World.putObj_heap_other hne).trans (h.own k hk hk')⟩
theorem KpO.set {pb n x j : Nat} {W W' : World} (h : KpO pb n W W') (hx : n ≤ x) (ho : ¬ Ow pb W x) (u : Value) : KpO pb n W (W'.setCell ⟨x, j, none⟩ u) :=
 ⟨h.below.setCell hx u, fun k hk hk' => by
   have hne : k ≠ x := by rintro rfl; exact ho hk'
   exact (Below.heap_setCell _ _ _ _ hne).trans (h.own k hk hk')⟩
theorem KpO.kr {pb n b o lo hi : Nat} {W W' : World} (h : Kr b o lo hi W W') (hb : n ≤ b) (hl : n ≤ lo) (hn : n ≤ W.heap.size) (hob : ¬ Ow pb W b) (hol : ∀ k, lo ≤ k → k < hi → ¬ Ow pb W k) : KpO pb n W W' :=
 ⟨⟨h.os, h.tape, h.output, h.size, fun k hk => h.blk k (by omega) (by omega) (by omega)⟩, fun k hk ho => h.blk k hk (by rintro rfl; exact hob ho) (by
   rcases Nat.lt_or_ge k lo with h1 | h1
   · exact .inl h1
   · rcases Nat.lt_or_ge k hi with h2 | h2
     · exact absurd ho (hol k h1 h2)
     · exact .inr h2)⟩
structure FrO (pb n m : Nat) (W W' : World) : Prop where
 os : W'.os = W.os
 tape : W'.tape = W.tape
 output : W'.output = W.output
 size : W.heap.size ≤ W'.heap.size
 lo : ∀ k, k < n → W'.heap[k]? = W.heap[k]?
 hi : ∀ k, m ≤ k → k < W.heap.size → ¬ Ow pb W k → W'.heap[k]? = W.heap[k]?
 own : ∀ k, k < W.heap.size → Ow pb W' k → Ow pb W k
theorem FrO.below {pb n m : Nat} {W W' : World} (h : FrO pb n m W W') : Below n W W' := ⟨h.os, h.tape, h.output, h.size, h.lo⟩
def hit (zs : List Int) (x : Rx) (m : Nat) : Bool := if m = 0 then x.nul else (E.run zs x.ps m).en
theorem hit_iff (zs : List Int) (x : Rx) (m : Nat) (hm : m ≤ zs.length) : hit zs x m = true ↔ x.L (zs.take m) := by
 unfold hit
 by_cases h : m = 0
 · subst h
   rw [if_pos rfl, List.take_zero]
   exact E.Rx.nul_iff x
 · rw [if_neg h]
   exact E.run_en zs x m hm (by omega)
theorem hit_dead (zs : List Int) (x : Rx) {n m : Nat} (h0 : 0 < n) (hm : n ≤ m) (hg : (E.run zs x.ps n).go = false) : hit zs x m = false := by
 unfold hit
 rw [if_neg (by omega), E.run_dead zs x n m h0 hm hg]
 exact (E.run_ok zs x n).en_go hg
theorem skips {J : Nat → World → Prop} {h : Nat → Bool} (hs : ∀ m W, h m = false → J m W → J (m + 1) W) {n m : Nat} {W : World} (hn : n ≤ m) (hd : ∀ k, n ≤ k → k < m → h k = false) (hJ : J n W) : J m W := by
 induction m with
 | zero => obtain rfl : n = 0 := by omega
           exact hJ
 | succ m ih =>
   by_cases he : n = m + 1
   · subst he; exact hJ
   · exact hs m W (hd m (by omega) (by omega)) (ih (by omega) (fun k h1 h2 => hd k h1 (by omega)))
def PtsC (w0 : World) (gf bs : Nat) (sl : Obj) (zs : List Int) : Prop := ∀ (n : Nat), 1 ≤ n → ∀ (l : Nat) (J Stop : Nat → World → Prop) (W0 : World), W0.heap[bs]? = some sl → Below w0.heap.size w0 W0 →
 (∀ i (hi : i < zs.length) W (ix : Int), J i W → Below w0.heap.size w0 W → W.heap[bs]? = some sl → YieldAt Fence.wide (n - 1) Tryz.prog l #[.int .i64 ix, .int .i32 zs[i]] W fun e W' => (e = .returned (.bool true) ∧ Below w0.heap.size w0 W' ∧ W'.heap[bs]? = some sl ∧ J (i + 1) W') ∨ (e = .returned (.bool false) ∧ Stop i W')) →
 J 0 W0 → CallsIn Fence.wide n Tryz.prog gf #[.func (.yield l) #[] #[], .pointer (some ⟨bs, 0, none⟩)] W0 fun e W' => (∃ v, e = .returned v) ∧ (J zs.length W' ∨ ∃ i, i < zs.length ∧ Stop i W')
theorem pts_all {w0 : World} {ao : Option Addr} {cap : Nat} {xs : List Int} (hx : RdC32 w0 ao xs) (hlen : xs.length ≤ 1000000) (bs : Nat) : PtsC w0 96 bs (.cells #[.slice ao xs.length cap] 53) xs :=
 fun n hn l J Stop W0 hbx hB hY h0 => all1_in n hn w0 ao cap xs hx hlen l bs J Stop W0 hbx hB (fun i hi W h1 h2 h3 => hY i hi W _ h1 h2 h3) h0
set_option maxRecDepth 100000 in
set_option maxHeartbeats 1000000 in
theorem lens_make (h gf bs : Nat) (d : ND) (w : World) : Calls Tryz.prog 60 #[d.v, .func (.func h) #[] #[], .func (.func gf) #[] #[.pointer (some ⟨bs, 0, none⟩)]] w fun x w' => x = .returned (.func (.func 92) #[] #[.pointer (some ⟨w.heap.size + 1, 0, none⟩), .pointer (some ⟨w.heap.size, 0, none⟩), .pointer (some ⟨w.heap.size + 2, 0, none⟩)]) ∧
   w' = ((w.alloc (.cells #[.int .i64 d.k, .int .i64 d.a, .slice d.sp d.sl d.sc, .string d.n, .slice d.kp d.kl d.kc] 26)).alloc (.cells #[.func (.func h) #[] #[]] 105)).alloc (.cells #[.func (.func gf) #[] #[.pointer (some ⟨bs, 0, none⟩)]] 107) := by
 unfold ND.v
 go_enter Tryz.func60, Tryz.ntmps60
 go_wp2
 go_ret
 exact ⟨rfl, rfl⟩
structure LS (w0 : World) (pb m0 s1 Y lb rb lo hi L : Nat) (yv : Obj) (p : Ps) (i : Nat) (rc : Obj) (A : World) : Prop where
 y : A.heap[Y]? = some yv
 len : A.heap[lb]? = some (.cells #[.int .i64 (i : Int)] 3)
 pr : PR w0 A p rb 0 lo hi
 row : Row A rb
 rec_ : A.heap[L + 1]? = some rc
 def_ : A.heap[L]? = some (.deferred (some []))
 no : ∀ k, m0 ≤ k → k < s1 → ¬ Ow pb A k
 no2 : ¬ Ow pb A lb ∧ ¬ Ow pb A L ∧ ¬ Ow pb A (L + 1)
 sz : L + 2 ≤ A.heap.size
structure Geo (pb m0 s1 Y lb rb lo hi L : Nat) : Prop where
 g1 : pb < m0
 g2 : m0 ≤ Y ∧ Y < s1
 g3 : m0 ≤ rb ∧ rb < s1
 g4 : m0 ≤ lo
 g5 : hi ≤ s1
 g6 : rb < lo ∨ hi ≤ rb
 g7 : Y < lo ∧ Y ≠ rb
 g8 : s1 ≤ lb
 g9 : lb < L
section
variable {w0 : World} {pb m0 s1 Y lb rb lo hi L : Nat} {yv : Obj} {p : Ps} {i : Nat} {rc : Obj} {A B : World}
theorem LS.fr {n : Nat} (G : Geo pb m0 s1 Y lb rb lo hi L) (h : LS w0 pb m0 s1 Y lb rb lo hi L yv p i rc A) (f : FrO pb n m0 A B) : LS w0 pb m0 s1 Y lb rb lo hi L yv p i rc B := by
 obtain ⟨g1, g2, g3, g4, g5, g6, g7, g8, g9⟩ := G
 have sz := h.sz
 have k : ∀ k, m0 ≤ k → k < s1 → B.heap[k]? = A.heap[k]? := fun k h1 h2 => f.hi k h1 (by omega) (h.no k h1 h2)
 have hrb := k rb g3.1 g3.2
 obtain ⟨cs, hrow⟩ := h.row
 exact ⟨(k Y g2.1 g2.2).trans h.y, (f.hi lb (by omega) (by omega) h.no2.1).trans h.len, h.pr.keep (fun j _ => cell_blk hrb _) (fun q h1 h2 => k q (by omega) (by omega)), ⟨cs, hrb.trans hrow⟩,
   (f.hi (L + 1) (by omega) (by omega) h.no2.2.2).trans h.rec_, (f.hi L (by omega) (by omega) h.no2.2.1).trans h.def_, fun q h1 h2 ho => h.no q h1 h2 (f.own q (by omega) ho),
   ⟨fun ho => h.no2.1 (f.own lb (by omega) ho), fun ho => h.no2.2.1 (f.own L (by omega) ho), fun ho => h.no2.2.2 (f.own (L + 1) (by omega) ho)⟩, Nat.le_trans sz f.size⟩
theorem LS.kr {p' : Ps} (G : Geo pb m0 s1 Y lb rb lo hi L) (h : LS w0 pb m0 s1 Y lb rb lo hi L yv p i rc A) (f : Kr rb 0 lo hi A B) (hp : PR w0 B p' rb 0 lo hi) : LS w0 pb m0 s1 Y lb rb lo hi L yv p' i rc B := by
 obtain ⟨g1, g2, g3, g4, g5, g6, g7, g8, g9⟩ := G
 have sz := h.sz
 have hpb := f.blk pb (by omega) (by omega) (by omega)
 exact ⟨(f.blk Y (by omega) (by omega) (by omega)).trans h.y, (f.blk lb (by omega) (by omega) (by omega)).trans h.len, hp, f.row rb h.row, (f.blk (L + 1) (by omega) (by omega) (by omega)).trans h.rec_, (f.blk L (by omega) (by omega) (by omega)).trans h.def_,
   fun q h1 h2 ho => h.no q h1 h2 (ho.of hpb), ⟨fun ho => h.no2.1 (ho.of hpb), fun ho => h.no2.2.1 (ho.of hpb), fun ho => h.no2.2.2 (ho.of hpb)⟩, Nat.le_trans sz f.size⟩
theorem LS.put (G : Geo pb m0 s1 Y lb rb lo hi L) (h : LS w0 pb m0 s1 Y lb rb lo hi L yv p i rc A) (rc' : Obj) : LS w0 pb m0 s1 Y lb rb lo hi L yv p i rc' (A.putObj (L + 1) rc') := by
 obtain ⟨g1, g2, g3, g4, g5, g6, g7, g8, g9⟩ := G
 have sz := h.sz
 have k : ∀ q, q ≠ L + 1 → (A.putObj (L + 1) rc').heap[q]? = A.heap[q]? := fun q hq => World.putObj_heap_other hq
 have hpb := k pb (by omega)
 have hrb := k rb (by omega)
 obtain ⟨cs, hrow⟩ := h.row
 exact ⟨(k Y (by omega)).trans h.y, (k lb (by omega)).trans h.len, h.pr.keep (fun j _ => cell_blk hrb _) (fun q h1 h2 => k q (by omega)), ⟨cs, hrb.trans hrow⟩, World.putObj_heap_same (by omega), (k L (by omega)).trans h.def_,
   fun q h1 h2 ho => h.no q h1 h2 (ho.of hpb), ⟨fun ho => h.no2.1 (ho.of hpb), fun ho => h.no2.2.1 (ho.of hpb), fun ho => h.no2.2.2 (ho.of hpb)⟩, by rw [World.putObj_size]; exact sz⟩
theorem LS.more (G : Geo pb m0 s1 Y lb rb lo hi L) (h : LS w0 pb m0 s1 Y lb rb lo hi L yv p i rc A) : LS w0 pb m0 s1 Y lb rb lo hi L yv p (i + 1) rc (A.setCell ⟨lb, 0, none⟩ (.int .i64 ((i : Int) + 1))) := by
 obtain ⟨g1, g2, g3, g4, g5, g6, g7, g8, g9⟩ := G
 have sz := h.sz
 have k : ∀ q, q ≠ lb → (A.setCell ⟨lb, 0, none⟩ (.int .i64 ((i : Int) + 1))).heap[q]? = A.heap[q]? := fun q hq => Below.heap_setCell _ _ _ _ hq
 have hpb := k pb (by omega)
 have hrb := k rb (by omega)
 obtain ⟨cs, hrow⟩ := h.row
 have hl := h.len
 exact ⟨(k Y (by omega)).trans h.y, by simp [World.setCell, Array.getElem?_modify, hl], h.pr.keep (fun j _ => cell_blk hrb _) (fun q h1 h2 => k q (by omega)), ⟨cs, hrb.trans hrow⟩, (k (L + 1) (by omega)).trans h.rec_, (k L (by omega)).trans h.def_,
   fun q h1 h2 ho => h.no q h1 h2 (ho.of hpb), ⟨fun ho => h.no2.1 (ho.of hpb), fun ho => h.no2.2.1 (ho.of hpb), fun ho => h.no2.2.2 (ho.of hpb)⟩, by simp [World.setCell]; exact sz⟩
end
set_option maxRecDepth 100000 in
set_option maxHeartbeats 4000000 in
theorem lens66_in (n : Nat) (hn : 4 ≤ n) (w0 : World) (x : Rx) (d : ND) (zs : List Int) (m0 pb bh be bp bs l : Nat) (sl : Obj)
   (hmk : ∀ W, Below w0.heap.size w0 W → Calls Tryz.prog 61 #[d.v] W fun e W' => ∃ v, e = .returned v ∧ PV w0 W' x.ps v W.heap.size W'.heap.size ∧ Below W.heap.size W W')
   (hpts : PtsC w0 96 bs sl zs) (hzl : zs.length ≤ 1000000) (hm : w0.heap.size ≤ m0) (hpb : pb < m0) (hbp : m0 ≤ bp) (hbs : m0 ≤ bs)
   (J Stop : Nat → World → Prop) (W0 : World) (xh : W0.heap[bh]? = some (.cells #[.func (.func 61) #[] #[]] 105)) (xe : W0.heap[be]? = some (.cells #[.int .i64 d.k, .int .i64 d.a, .slice d.sp d.sl d.sc, .string d.n, .slice d.kp d.kl d.kc] 26)) (xp : W0.heap[bp]? = some (.cells #[.func (.func 96) #[] #[.pointer (some ⟨bs, 0, none⟩)]] 107)) (xs : W0.heap[bs]? = some sl) (hB0 : Below w0.heap.size w0 W0) (hl : l < W0.heap.size) (hm0 : m0 ≤ W0.heap.size)
   (hJ : ∀ m W W', J m W → KpO pb W0.heap.size W W' → J m W') (hS : ∀ m W W', Stop m W → Below W0.heap.size W W' → Stop m W') (hskip : ∀ m W, hit zs x m = false → J m W → J (m + 1) W)
   (hlt : ∀ m W, J m W → ∀ k, Ow pb W k → k < W.heap.size) (hO0 : ∀ k, m0 ≤ k → ¬ Ow pb W0 k)
   (hY : ∀ m, m ≤ zs.length → hit zs x m = true → ∀ W, J m W → W0.heap.size ≤ W.heap.size → Below w0.heap.size w0 W →
     YieldAt Fence.wide (n - 3) Tryz.prog l #[.int .i64 (m : Int)] W fun e W' => (e = .returned (.bool true) ∧ FrO pb w0.heap.size m0 W W' ∧ J (m + 1) W') ∨ (e = .returned (.bool false) ∧ (∀ k, m0 ≤ k → k < W.heap.size → k ≠ l → ¬ Ow pb W k → W'.heap[k]? = W.heap[k]?) ∧ Stop m W'))
   (h0 : J 0 W0) :
   CallsIn Fence.wide n Tryz.prog 92 #[.func (.yield l) #[] #[], .pointer (some ⟨bh, 0, none⟩), .pointer (some ⟨be, 0, none⟩), .pointer (some ⟨bp, 0, none⟩)] W0 fun e W' => (∃ v, e = .returned v) ∧ (J (zs.length + 1) W' ∨ ∃ m, m ≤ zs.length ∧ Stop m W') := by
 have hs0 := hB0.size
 have hbpl : bp < W0.heap.size := (Array.getElem?_eq_some_iff.1 xp).1
 have hbsl : bs < W0.heap.size := (Array.getElem?_eq_some_iff.1 xs).1
 have hbhl : bh < W0.heap.size := (Array.getElem?_eq_some_iff.1 xh).1
 have hbel : be < W0.heap.size := (Array.getElem?_eq_some_iff.1 xe).1
 have ch : W0.cell? ⟨bh, 0, none⟩ = some (.func (.func 61) #[] #[]) := by simp [World.cell?, xh]
 obtain ⟨q0, q1, q2, q3, q4⟩ := cells_five xe
 have aY := al1 W0 (.cells #[.func (.yield l) #[] #[]] 89)
 have nY := heap_alloc_new W0 (.cells #[.func (.yield l) #[] #[]] 89)
 have sY : (W0.alloc (.cells #[.func (.yield l) #[] #[]] 89)).heap.size = W0.heap.size + 1 := by simp
 have hcall := hmk (W0.alloc (.cells #[.func (.yield l) #[] #[]] 89)) (hB0.trans (aY.mono hs0))
 unfold ND.v at hcall
 refine callsIn_of_wp_marks Tryz.func92 rfl trivial ?_ rfl
 simp only [Tryz.ntmps92, List.size_toArray, List.length_cons, List.length_nil, Nat.reduceAdd, Nat.reduceSub, Array.replicate_succ, Array.replicate_zero, List.push_toArray, List.append_toArray, List.nil_append, List.cons_append]
 gi_wp2_with fail
 refine ⟨trivial, (fun h => by cases h), ?_⟩
 refine (callsIn_wide.2 hcall).mono ?_
 rintro e W1 ⟨v, rfl, hpv, hb1⟩
 obtain ⟨k, sp, sl', sc, kp, kl, kc, nu, en, go, rfl, hPR⟩ := hpv
 rw [sY] at hPR hb1
 have s1 := hb1.size
 rw [sY] at s1
 have bb := aY.trans (hb1.mono (Nat.le_succ _))
 unfold six
 have aR := al1 W1 (.cells #[.int .i64 k, .slice sp sl' sc, .slice kp kl kc, .bool nu, .bool en, .bool go] 147)
 have nR := heap_alloc_new W1 (.cells #[.int .i64 k, .slice sp sl' sc, .slice kp kl kc, .bool nu, .bool en, .bool go] 147)
 have sR : (W1.alloc (.cells #[.int .i64 k, .slice sp sl' sc, .slice kp kl kc, .bool nu, .bool en, .bool go] 147)).heap.size = W1.heap.size + 1 := by simp
 have prR := hPR (W1.alloc (.cells #[.int .i64 k, .slice sp sl' sc, .slice kp kl kc, .bool nu, .bool en, .bool go] 147)) W1.heap.size 0 (by
   obtain ⟨c0, c1, c2, c3, c4, c5⟩ := cells_six nR
   exact ⟨c0, c1, c2, c3, c4, c5⟩) (fun i _ hi => aR.block i hi)
 have hnu : nu = x.nul := by
   have h1 := prR.tell.1
   rw [(E.Rx.ps_ok x).2.2.2] at h1
   have h2 := (cells_six nR).2.2.2.1
   rw [Nat.zero_add] at h1
   rw [h1] at h2
   simpa using h2.symm
 clear hcall ch q0 q1 q2 q3 q4 hPR hmk xh xe
 have oR : ∀ q, m0 ≤ q → ¬ Ow pb (W1.alloc (.cells #[.int .i64 k, .slice sp sl' sc, .slice kp kl kc, .bool nu, .bool en, .bool go] 147)) q := fun q hq ho => hO0 q hq (ho.of ((aR.block pb (by omega)).trans (bb.block pb (by omega))))
 have bR : Below W0.heap.size W0 (W1.alloc (.cells #[.int .i64 k, .slice sp sl' sc, .slice kp kl kc, .bool nu, .bool en, .bool go] 147)) := bb.trans (aR.mono (by omega))
 have yR := ((hb1.trans (aR.mono s1)).block W0.heap.size (by omega)).trans nY
 subst hnu
 cases hxn : x.nul with
 | true =>
   rw [hxn] at aR nR sR prR oR bR yR
   obtain ⟨R, hR0⟩ : ∃ R, W1.alloc (.cells #[.int .i64 k, .slice sp sl' sc, .slice kp kl kc, .bool true, .bool en, .bool go] 147) = R := ⟨_, rfl⟩
   have HRW := hide hR0
   rw [hR0] at aR nR sR prR oR bR yR
   have JR : J 0 R := hJ _ _ _ h0 ⟨bR, fun q hq ho => bR.block q (hlt _ _ h0 q ho)⟩
   obtain ⟨fn, tmps, assign, body, hy, hR⟩ := yield_anyN (n - 1) (hY 0 (by omega) (by unfold hit; rw [if_pos rfl]; exact hxn) R JR (by omega) (hB0.trans (bR.mono hs0)))
   have hy' : (Instr.yield l #[.int .i64 0]).run Tryz.prog (W1.alloc (.cells #[.int .i64 k, .slice sp sl' sc, .slice kp kl kc, .bool true, .bool en, .bool go] 147)) = .ok (.round l fn tmps assign body) (W1.alloc (.cells #[.int .i64 k, .slice sp sl' sc, .slice kp kl kc, .bool true, .bool en, .bool go] 147)) := by rw [HRW.out]; exact hy
   have cY : (W1.alloc (.cells #[.int .i64 k, .slice sp sl' sc, .slice kp kl kc, .bool true, .bool en, .bool go] 147)).cell? ⟨W0.heap.size, 0, none⟩ = some (.func (.yield l) #[] #[]) := by rw [HRW.out]; simp [World.cell?, yR]
   clear hy hR0
   gi_wp2
   refine ⟨(fun h => by cases h), ?_⟩
   rw [HRW.out]
   refine hR.mono ?_
   rintro e W2 (⟨rfl, hfr, J2⟩ | ⟨rfl, _, hSt⟩)
   · have z2 := hfr.size
     have kf : ∀ q, m0 ≤ q → q < R.heap.size → W2.heap[q]? = R.heap[q]? := fun q h1 h2 => hfr.hi q h1 h2 (oR q h1)
     have xp2 := (kf bp hbp (by omega)).trans ((bR.block bp hbpl).trans xp)
     have xs2 := (kf bs hbs (by omega)).trans ((bR.block bs hbsl).trans xs)
     have y2 := (kf W0.heap.size (by omega) (by omega)).trans yR
     have hrb2 := kf W1.heap.size (by omega) (by omega)
     have pr2 : PR w0 W2 x.ps W1.heap.size 0 (W0.heap.size + 1) W1.heap.size := prR.keep (fun j _ => cell_blk hrb2 _) (fun q h1 h2 => kf q (by omega) (by omega))
     have row2 : Row W2 W1.heap.size := ⟨_, hrb2.trans nR⟩
     have no2 : ∀ q, m0 ≤ q → q < R.heap.size → ¬ Ow pb W2 q := fun q h1 h2 ho => oR q h1 (hfr.own q h2 ho)
     have B2 : Below w0.heap.size w0 W2 := (hB0.trans (bR.mono hs0)).trans hfr.below
     have hRW0 : W0.heap.size + 2 ≤ R.heap.size := by omega
     have hRW1 : W1.heap.size + 1 ≤ R.heap.size := by omega
     clear sR sY
     clear hR hy' cY hfr kf hrb2 prR yR nR oR JR HRW aY nY aR bR hb1 bb hbhl hbel
     have cp : W2.cell? ⟨bp, 0, none⟩ = some (.func (.func 96) #[] #[.pointer (some ⟨bs, 0, none⟩)]) := by simp [World.cell?, xp2]
     have hbpl : bp < W2.heap.size := by omega
     gi_wp2
     have ax := al1 W2 (.cells #[.int .i64 0] 3)
     have nx0 := heap_alloc_new W2 (.cells #[.int .i64 0] 3)
     have sx : (W2.alloc (.cells #[.int .i64 0] 3)).heap.size = W2.heap.size + 1 := by simp
     obtain ⟨X, hX⟩ : ∃ X, W2.alloc (.cells #[.int .i64 0] 3) = X := ⟨_, rfl⟩
     rw [hX] at ax nx0 sx ⊢
     clear hX cp
     refine enter3 (gf := 96) (lb := #[.pointer (some ⟨bs, 0, none⟩)]) rfl (enters_of Tryz.func96 (by kernel_rfl) rfl) ?_
     intro r We hr hrec hdef hszE hbE
     rw [sx] at hrec hdef hszE ⊢
     have bE := nx ax hbE
     have sE : We.heap.size = W2.heap.size + 3 := by omega
     have G : Geo pb m0 R.heap.size W0.heap.size W2.heap.size W1.heap.size (W0.heap.size + 1) W1.heap.size (W2.heap.size + 1) := ⟨hpb, by omega, by omega, by omega, by omega, by omega, by omega, by omega, by omega⟩
     have JE : J 1 We := hJ _ _ _ J2 (KpO.of bE (by omega))
     have hpbE : We.heap[pb]? = W2.heap[pb]? := bE.block pb (by omega)
     have hfre : ∀ k, W2.heap.size ≤ k → ¬ Ow pb We k := fun k hk ho => by
       have := hlt _ _ J2 k (ho.of hpbE)
       omega
     have LE : LS w0 pb m0 R.heap.size W0.heap.size W2.heap.size W1.heap.size (W0.heap.size + 1) W1.heap.size (W2.heap.size + 1) (.cells #[.func (.yield l) #[] #[]] 89) x.ps 0 (.loop r) We := by
       obtain ⟨cs, hrow⟩ := row2
       have hrb := bE.block W1.heap.size (by omega)
       exact ⟨(bE.block _ (by omega)).trans y2, (hbE.block _ (by omega)).trans nx0, pr2.keep (fun j _ => cell_blk hrb _) (fun q h1 h2 => bE.block q (by omega)), ⟨cs, hrb.trans hrow⟩, hrec.out, hdef.out, fun k h1 h2 ho => no2 k h1 h2 (ho.of hpbE), ⟨hfre _ (by omega), hfre _ (by omega), hfre _ (by omega)⟩, by omega⟩
     have BE : Below w0.heap.size w0 We := B2.trans (bE.mono (by omega))
     have xsE := (bE.block bs (by omega)).trans xs2
     clear hrec hdef hbE nx0 ax y2 pr2 row2 no2 xp2 xs2 bE hfre hpbE
     refine (hpts (n - 1) (by omega) (W2.heap.size + 1 + 1)
       (fun i A => J (i + 1) A ∧ LS w0 pb m0 R.heap.size W0.heap.size W2.heap.size W1.heap.size (W0.heap.size + 1) W1.heap.size (W2.heap.size + 1) (.cells #[.func (.yield l) #[] #[]] 89) (E.run zs x.ps i) i (.loop r) A)
       (fun _ A => ((J (zs.length + 1) A ∧ ¬ Ow pb A (W2.heap.size + 1) ∧ ¬ Ow pb A (W2.heap.size + 1 + 1)) ∨ ∃ m, m ≤ zs.length ∧ Stop m A) ∧ (∃ rd : Loop, rd.state = .done ∧ rd.pending = some .ret ∧ A.heap[W2.heap.size + 1 + 1]? = some (.loop rd)) ∧ A.heap[W2.heap.size + 1]? = some (.deferred (some []))) We xsE BE ?round ⟨JE, LE⟩).mono ?_
     case round =>
       rintro i hi A ix ⟨jJ, jL⟩ hBA hbA
       have szA := jL.sz
       refine yield3 hr jL.rec_ rfl ?_
       gi_wp2
       refine ⟨jL.rec_, ?_⟩
       intro rb'
       have L1 := jL.put G (.loop rb')
       have k1 : KpO pb W0.heap.size A (A.putObj (W2.heap.size + 1 + 1) (.loop rb')) := (KpO.refl _ _ _).put (by omega) jL.no2.2.2 _
       have J1 := hJ _ _ _ jJ k1
       have b1 : Below w0.heap.size w0 (A.putObj (W2.heap.size + 1 + 1) (.loop rb')) := hBA.trans (k1.below.mono (by omega))
       have xs1 : (A.putObj (W2.heap.size + 1 + 1) (.loop rb')).heap[bs]? = some sl := (World.putObj_heap_other (by omega)).trans hbA
       obtain ⟨A1, hA1⟩ : ∃ A1, A.putObj (W2.heap.size + 1 + 1) (.loop rb') = A1 := ⟨_, rfl⟩
       rw [hA1] at L1 J1 b1 xs1 ⊢
       clear hA1 k1 jJ jL hbA
       have s1 := L1.sz
       obtain ⟨fl, HFL⟩ : ∃ fl, Hid (decide (i = 0) = fl) := ⟨_, hide rfl⟩
       have hfl : ((i : Int) == 0) = fl := by rw [← HFL.out]; rw [Bool.eq_iff_iff]; simp
       have hrd := readP_any (E.run zs x.ps i) w0 A1 W1.heap.size 0 (W0.heap.size + 1) W1.heap.size zs[i] fl L1.pr L1.row (by omega) (by omega) b1 (by omega) (by omega)
       have HST : Hid ((E.run zs x.ps i).read zs[i] fl = E.run zs x.ps (i + 1)) := hide (by
         rw [E.Ps.read_eq (E.run_ok zs x i), E.run, List.getD_eq_getElem?_getD, List.getElem?_eq_getElem hi, ← HFL.out]
         rfl)
       have clen : A1.cell? ⟨W2.heap.size, 0, none⟩ = some (.int .i64 (i : Int)) := by simp [World.cell?, L1.len]
       generalize hzi : zs[i] = zi at *
       gi_wp2_with fail
       refine ⟨trivial, (fun h => by cases h), ?_⟩
       refine (callsIn_wide.2 hrd).mono ?_
       rintro e W3 ⟨rfl, hpr3, hk3⟩
       rw [HST.out] at hpr3
       have L3 := L1.kr G hk3 hpr3
       have k3 : KpO pb W0.heap.size A1 W3 := KpO.kr hk3 (by omega) (by omega) (by omega) (L1.no _ (by omega) (by omega)) (fun k h1 h2 => L1.no k (by omega) (by omega))
       have J3 := hJ _ _ _ J1 k3
       have b3 : Below w0.heap.size w0 W3 := b1.trans (k3.below.mono (by omega))
       have xs3 : W3.heap[bs]? = some sl := (k3.below.block bs (by omega)).trans xs1
       have L4 := L3.more G
       have k4 : KpO pb W0.heap.size W3 (W3.setCell ⟨W2.heap.size, 0, none⟩ (.int .i64 ((i : Int) + 1))) := (KpO.refl _ _ _).set (by omega) L3.no2.1 _
       have J4 := hJ _ _ _ J3 k4
       have b4 : Below w0.heap.size w0 (W3.setCell ⟨W2.heap.size, 0, none⟩ (.int .i64 ((i : Int) + 1))) := b3.trans (k4.below.mono (by omega))
       have xs4 : (W3.setCell ⟨W2.heap.size, 0, none⟩ (.int .i64 ((i : Int) + 1))).heap[bs]? = some sl := (k4.below.block bs (by omega)).trans xs3
       have c3 : W3.cell? ⟨W2.heap.size, 0, none⟩ = some (.int .i64 (i : Int)) := by simp [World.cell?, L3.len]
       have f3 : W3.frozen? ⟨W2.heap.size, 0, none⟩ = false := by simp [World.frozen?, L3.len]
       obtain ⟨W4, hW4⟩ : ∃ W4, W3.setCell ⟨W2.heap.size, 0, none⟩ (.int .i64 ((i : Int) + 1)) = W4 := ⟨_, rfl⟩
       rw [hW4] at L4 J4 b4 xs4
       have e4 : W4.cell? ⟨W2.heap.size, 0, none⟩ = some (.int .i64 ((i : Int) + 1)) := by simp [World.cell?, L4.len]
       obtain ⟨_, t4, t5⟩ := L4.pr.tell
       simp only [Nat.zero_add] at t4 t5
       have ty4 : W4.cell? ⟨W0.heap.size, 0, none⟩ = some (.func (.yield l) #[] #[]) := by simp [World.cell?, L4.y]
       have s4 := L4.sz
       have HJ4 := hide J4
       have HB4 := hide b4
       have HX4 := hide xs4
       have HL4 := hide L4
       have hdead : Hid ((E.run zs x.ps (i + 1)).go = false → ∀ W, J (i + 2) W → J (zs.length + 1) W) := hide (fun hg W hj => skips hskip (by omega) (fun k h1 h2 => hit_dead zs x (by omega) (show i + 1 ≤ k by omega) hg) hj)
       have hhit : Hid (hit zs x (i + 1) = (E.run zs x.ps (i + 1)).en) := hide (by unfold hit; rw [if_neg (by omega)])
       have HSK := hide hskip
       have HYY := hide hY
       have hngo : Hid ((E.run zs x.ps (i + 1)).en = true → (E.run zs x.ps (i + 1)).go = true) := hide (fun he => by
         cases hg : (E.run zs x.ps (i + 1)).go with
         | true => rfl
         | false => rw [(E.run_ok zs x (i + 1)).en_go hg] at he; cases he)
       clear hrd clen L1 J1 b1 xs1 L3 J3 b3 xs3 k3 k4 hk3 hpr3 J4 b4 xs4 L4 hfl HST hskip hY hlt
       have fin : ∀ (W5 : World), LS w0 pb m0 R.heap.size W0.heap.size W2.heap.size W1.heap.size (W0.heap.size + 1) W1.heap.size (W2.heap.size + 1) (.cells #[.func (.yield l) #[] #[]] 89) (E.run zs x.ps (i + 1)) (i + 1) (.loop rb') W5 → J (i + 2) W5 → Below w0.heap.size w0 W5 → W5.heap[bs]? = some sl →
           W5.heap[W2.heap.size + 1 + 1]? = some (.loop rb') ∧ Below w0.heap.size w0 (W5.putObj (W2.heap.size + 1 + 1) (.loop r)) ∧ (W5.putObj (W2.heap.size + 1 + 1) (.loop r)).heap[bs]? = some sl ∧ J (i + 1 + 1) (W5.putObj (W2.heap.size + 1 + 1) (.loop r)) ∧ LS w0 pb m0 R.heap.size W0.heap.size W2.heap.size W1.heap.size (W0.heap.size + 1) W1.heap.size (W2.heap.size + 1) (.cells #[.func (.yield l) #[] #[]] 89) (E.run zs x.ps (i + 1)) (i + 1) (.loop r) (W5.putObj (W2.heap.size + 1 + 1) (.loop r)) := by
         intro W5 q1 q2 q3 q4
         have kk : KpO pb W0.heap.size W5 (W5.putObj (W2.heap.size + 1 + 1) (.loop r)) := (KpO.refl _ _ _).put (by omega) q1.no2.2.2 _
         exact ⟨q1.rec_, q3.trans (kk.below.mono (by omega)), (World.putObj_heap_other (by omega)).trans q4, hJ _ _ _ q2 kk, q1.put G _⟩
       have FIN := hide fin
       clear fin
       cases hen : (E.run zs x.ps (i + 1)).en with
       | true =>
         rw [hen] at t4
         have hgo := hngo.out hen
         rw [hgo] at t5
         obtain ⟨fn, tmps, assign, body, hy, hR⟩ := yield_anyN (n - 1 - 1 - 1) (HYY.out (i + 1) (by omega) (by rw [hhit.out]; exact hen) W4 HJ4.out (by omega) HB4.out)
         have ecast : (((i + 1 : Nat) : Int)) = (i : Int) + 1 := by omega
         rw [ecast] at hy
         gi_wp2
         refine ⟨(fun h => by cases h), RoundIn.mono (F := Fence.wide.inRound (W2.heap.size + 1 + 1)) hR ?_⟩
         rintro e W5 (⟨rfl, hfr, hJ5⟩ | ⟨rfl, hfx, hS5⟩)
         · have L5 := HL4.out.fr G hfr
           have b5 := HB4.out.trans hfr.below
           have xs5 : W5.heap[bs]? = some sl := (hfr.hi bs (by omega) (by omega) (HL4.out.no bs (by omega) (by omega))).trans HX4.out
           have u5 := L5.pr.tell.2.2
           rw [hgo] at u5
           simp only [Nat.zero_add] at u5
           obtain ⟨f1, f2, f3', f4, f5⟩ := FIN.out W5 L5 hJ5 b5 xs5
           clear hy hR hfr t4 t5 e4 ty4 L5
           gi_wp2
           exact ⟨f1, .inl ⟨rfl, f2, f3', f4, f5⟩⟩
         · have r5 := (hfx (W2.heap.size + 1 + 1) (by omega) (by omega) (by omega) HL4.out.no2.2.2).trans HL4.out.rec_
           have d5 := (hfx (W2.heap.size + 1) (by omega) (by omega) (by omega) HL4.out.no2.2.1).trans HL4.out.def_
           have HS5 := hide hS5
           have R5 := hide r5
           have D5 := hide d5
           clear hy hR hfx hS5 t4 t5 e4 ty4 r5 d5
           gi_wp2
           refine ⟨R5.out, fun rd h1 h2 => .inr ⟨rfl, .inr ⟨i + 1, by omega, hS _ _ _ HS5.out (below_put _ _ (by omega))⟩, ⟨rd, h1, h2, World.putObj_heap_same (Array.getElem?_eq_some_iff.1 R5.out).1⟩, (World.putObj_heap_other (by omega)).trans D5.out⟩⟩
       | false =>
         rw [hen] at t4
         have J5 : J (i + 2) W4 := HSK.out _ _ (by rw [hhit.out]; exact hen) HJ4.out
         cases hgo : (E.run zs x.ps (i + 1)).go with
         | true =>
           rw [hgo] at t5
           obtain ⟨f1, f2, f3', f4, f5⟩ := FIN.out W4 HL4.out J5 HB4.out HX4.out
           gi_wp2
           refine ⟨(fun _ h => by cases h), ?_⟩
           gi_wp2
           exact ⟨f1, .inl ⟨rfl, f2, f3', f4, f5⟩⟩
         | false =>
           rw [hgo] at t5
           have J6 := hdead.out hgo _ J5
           have r5 := HL4.out.rec_
           have d5 := HL4.out.def_
           have n5 := HL4.out.no2.2
           gi_wp2
           refine ⟨(fun _ h => by cases h), ?_⟩
           gi_wp2
           refine ⟨r5, fun rd h1 h2 => .inr ⟨rfl, .inl ⟨hJ _ _ _ J6 ((KpO.refl _ _ _).put (by omega) n5.2 _), fun ho => n5.1 (ho.of (World.putObj_heap_other (by omega))), fun ho => n5.2 (ho.of (World.putObj_heap_other (by omega)))⟩, ⟨rd, h1, h2, World.putObj_heap_same (Array.getElem?_eq_some_iff.1 r5).1⟩, (World.putObj_heap_other (by omega)).trans d5⟩⟩
     rintro e W' ⟨hv, h⟩
     refine ⟨hv, ?_⟩
     rcases h with ⟨j1, jL⟩ | ⟨i, hi, hst, ⟨rd, hd1, hd2, hd3⟩, j4⟩
     · refine .inl ⟨jL.rec_, fun r' => ?_⟩
       have k4 := (World.putObj_heap_other (w := W') (o := .loop r') (show W2.heap.size + 1 ≠ W2.heap.size + 1 + 1 by omega)).trans jL.def_
       have kk : KpO pb W0.heap.size W' (W'.putObj (W2.heap.size + 1 + 1) (.loop r')) := (KpO.refl _ _ _).put (by omega) jL.no2.2.2 _
       have kJ := hJ _ _ _ j1 kk
       have kn : ¬ Ow pb (W'.putObj (W2.heap.size + 1 + 1) (.loop r')) (W2.heap.size + 1) := fun ho => jL.no2.2.1 (ho.of (kk.below.block pb (by omega)))
       generalize W'.putObj (W2.heap.size + 1 + 1) (.loop r') = W9 at *
       clear jL
       gi_wp2
       refine ⟨by simp, .inl ⟨_, _, rfl, run_takeDeferred k4, ?_⟩⟩
       exact ⟨_, results_none rfl _ _ _, ⟨_, rfl⟩, .inl (hJ _ _ _ kJ ((KpO.refl _ _ _).put (by omega) kn _))⟩
     · refine .inr ⟨rd, hd1, hd2, hd3, fun r' => ?_⟩
       have k4 := (World.putObj_heap_other (w := W') (o := .loop r') (show W2.heap.size + 1 ≠ W2.heap.size + 1 + 1 by omega)).trans j4
       have hpbk : (W'.putObj (W2.heap.size + 1 + 1) (.loop r')).heap[pb]? = W'.heap[pb]? := World.putObj_heap_other (by omega)
       have kS : (J (zs.length + 1) (W'.putObj (W2.heap.size + 1 + 1) (.loop r')) ∧ ¬ Ow pb (W'.putObj (W2.heap.size + 1 + 1) (.loop r')) (W2.heap.size + 1)) ∨ ∃ m, m ≤ zs.length ∧ Stop m (W'.putObj (W2.heap.size + 1 + 1) (.loop r')) := by
         rcases hst with ⟨p1, p2, p3⟩ | ⟨m, p1, p2⟩
         · exact .inl ⟨hJ _ _ _ p1 ((KpO.refl _ _ _).put (by omega) p3 _), fun ho => p2 (ho.of hpbk)⟩
         · exact .inr ⟨m, p1, hS _ _ _ p2 (below_put _ _ (by omega))⟩
       clear hst hpbk
       generalize W'.putObj (W2.heap.size + 1 + 1) (.loop r') = W9 at *
       gi_wp2
       refine ⟨by simp, .inl ⟨_, _, rfl, run_takeDeferred k4, ?_⟩⟩
       refine ⟨_, results_none rfl _ _ _, ⟨_, rfl⟩, ?_⟩
       rcases kS with ⟨p1, p2⟩ | ⟨m, p1, p2⟩
       · exact .inl (hJ _ _ _ p1 ((KpO.refl _ _ _).put (by omega) p2 _))
       · exact .inr ⟨m, p1, hS _ _ _ p2 (below_put _ _ (by omega))⟩
   · clear hR hy' cY
     gi_wp2
     exact ⟨_, results_none rfl _ _ _, ⟨_, rfl⟩, .inr ⟨0, by omega, hSt⟩⟩
 | false =>
   rw [hxn] at aR nR sR prR oR bR yR
   obtain ⟨R, hR0⟩ : ∃ R, W1.alloc (.cells #[.int .i64 k, .slice sp sl' sc, .slice kp kl kc, .bool false, .bool en, .bool go] 147) = R := ⟨_, rfl⟩
   have HRW := hide hR0
   rw [hR0] at aR nR sR prR oR bR yR
   have JR : J 0 R := hJ _ _ _ h0 ⟨bR, fun q hq ho => bR.block q (hlt _ _ h0 q ho)⟩
   have J2 : J 1 R := hskip _ _ (by unfold hit; rw [if_pos rfl]; exact hxn) JR
   have z2 : R.heap.size ≤ R.heap.size := Nat.le_refl _
   have xp2 := (bR.block bp hbpl).trans xp
   have xs2 := (bR.block bs hbsl).trans xs
   have y2 := yR
   have pr2 := prR
   have row2 : Row R W1.heap.size := ⟨_, nR⟩
   have no2 : ∀ q, m0 ≤ q → q < R.heap.size → ¬ Ow pb R q := fun q h1 _ => oR q h1
   have B2 : Below w0.heap.size w0 R := hB0.trans (bR.mono hs0)
   have hRW0 : W0.heap.size + 2 ≤ R.heap.size := by omega
   have hRW1 : W1.heap.size + 1 ≤ R.heap.size := by omega
   clear sR sY
   clear prR yR nR oR JR aY nY aR bR hb1 bb hbhl hbel hR0
   gi_wp2
   refine ⟨(fun _ h => by cases h), ?_⟩
   rw [HRW.out]
   have cp : R.cell? ⟨bp, 0, none⟩ = some (.func (.func 96) #[] #[.pointer (some ⟨bs, 0, none⟩)]) := by simp [World.cell?, xp2]
   have hbpl : bp < R.heap.size := by omega
   gi_wp2
   have ax := al1 R (.cells #[.int .i64 0] 3)
   have nx0 := heap_alloc_new R (.cells #[.int .i64 0] 3)
   have sx : (R.alloc (.cells #[.int .i64 0] 3)).heap.size = R.heap.size + 1 := by simp
   obtain ⟨X, hX⟩ : ∃ X, R.alloc (.cells #[.int .i64 0] 3) = X := ⟨_, rfl⟩
   rw [hX] at ax nx0 sx ⊢
   clear hX cp
   refine enter3 (gf := 96) (lb := #[.pointer (some ⟨bs, 0, none⟩)]) rfl (enters_of Tryz.func96 (by kernel_rfl) rfl) ?_
   intro r We hr hrec hdef hszE hbE
   rw [sx] at hrec hdef hszE ⊢
   have bE := nx ax hbE
   have sE : We.heap.size = R.heap.size + 3 := by omega
   have G : Geo pb m0 R.heap.size W0.heap.size R.heap.size W1.heap.size (W0.heap.size + 1) W1.heap.size (R.heap.size + 1) := ⟨hpb, by omega, by omega, by omega, by omega, by omega, by omega, by omega, by omega⟩
   have JE : J 1 We := hJ _ _ _ J2 (KpO.of bE (by omega))
   have hpbE : We.heap[pb]? = R.heap[pb]? := bE.block pb (by omega)
   have hfre : ∀ k, R.heap.size ≤ k → ¬ Ow pb We k := fun k hk ho => by
     have := hlt _ _ J2 k (ho.of hpbE)
     omega
   have LE : LS w0 pb m0 R.heap.size W0.heap.size R.heap.size W1.heap.size (W0.heap.size + 1) W1.heap.size (R.heap.size + 1) (.cells #[.func (.yield l) #[] #[]] 89) x.ps 0 (.loop r) We := by
     obtain ⟨cs, hrow⟩ := row2
     have hrb := bE.block W1.heap.size (by omega)
     exact ⟨(bE.block _ (by omega)).trans y2, (hbE.block _ (by omega)).trans nx0, pr2.keep (fun j _ => cell_blk hrb _) (fun q h1 h2 => bE.block q (by omega)), ⟨cs, hrb.trans hrow⟩, hrec.out, hdef.out, fun k h1 h2 ho => no2 k h1 h2 (ho.of hpbE), ⟨hfre _ (by omega), hfre _ (by omega), hfre _ (by omega)⟩, by omega⟩
   have BE : Below w0.heap.size w0 We := B2.trans (bE.mono (by omega))
   have xsE := (bE.block bs (by omega)).trans xs2
   clear hrec hdef hbE nx0 ax y2 pr2 row2 no2 xp2 xs2 bE hfre hpbE
   refine (hpts (n - 1) (by omega) (R.heap.size + 1 + 1)
     (fun i A => J (i + 1) A ∧ LS w0 pb m0 R.heap.size W0.heap.size R.heap.size W1.heap.size (W0.heap.size + 1) W1.heap.size (R.heap.size + 1) (.cells #[.func (.yield l) #[] #[]] 89) (E.run zs x.ps i) i (.loop r) A)
     (fun _ A => ((J (zs.length + 1) A ∧ ¬ Ow pb A (R.heap.size + 1) ∧ ¬ Ow pb A (R.heap.size + 1 + 1)) ∨ ∃ m, m ≤ zs.length ∧ Stop m A) ∧ (∃ rd : Loop, rd.state = .done ∧ rd.pending = some .ret ∧ A.heap[R.heap.size + 1 + 1]? = some (.loop rd)) ∧ A.heap[R.heap.size + 1]? = some (.deferred (some []))) We xsE BE ?round ⟨JE, LE⟩).mono ?_
   case round =>
     rintro i hi A ix ⟨jJ, jL⟩ hBA hbA
     have szA := jL.sz
     refine yield3 hr jL.rec_ rfl ?_
     gi_wp2
     refine ⟨jL.rec_, ?_⟩
     intro rb'
     have L1 := jL.put G (.loop rb')
     have k1 : KpO pb W0.heap.size A (A.putObj (R.heap.size + 1 + 1) (.loop rb')) := (KpO.refl _ _ _).put (by omega) jL.no2.2.2 _
     have J1 := hJ _ _ _ jJ k1
     have b1 : Below w0.heap.size w0 (A.putObj (R.heap.size + 1 + 1) (.loop rb')) := hBA.trans (k1.below.mono (by omega))
     have xs1 : (A.putObj (R.heap.size + 1 + 1) (.loop rb')).heap[bs]? = some sl := (World.putObj_heap_other (by omega)).trans hbA
     obtain ⟨A1, hA1⟩ : ∃ A1, A.putObj (R.heap.size + 1 + 1) (.loop rb') = A1 := ⟨_, rfl⟩
     rw [hA1] at L1 J1 b1 xs1 ⊢
     clear hA1 k1 jJ jL hbA
     have s1 := L1.sz
     obtain ⟨fl, HFL⟩ : ∃ fl, Hid (decide (i = 0) = fl) := ⟨_, hide rfl⟩
     have hfl : ((i : Int) == 0) = fl := by rw [← HFL.out]; rw [Bool.eq_iff_iff]; simp
     have hrd := readP_any (E.run zs x.ps i) w0 A1 W1.heap.size 0 (W0.heap.size + 1) W1.heap.size zs[i] fl L1.pr L1.row (by omega) (by omega) b1 (by omega) (by omega)
     have HST : Hid ((E.run zs x.ps i).read zs[i] fl = E.run zs x.ps (i + 1)) := hide (by
       rw [E.Ps.read_eq (E.run_ok zs x i), E.run, List.getD_eq_getElem?_getD, List.getElem?_eq_getElem hi, ← HFL.out]
       rfl)
     have clen : A1.cell? ⟨R.heap.size, 0, none⟩ = some (.int .i64 (i : Int)) := by simp [World.cell?, L1.len]
     generalize hzi : zs[i] = zi at *
     gi_wp2_with fail
     refine ⟨trivial, (fun h => by cases h), ?_⟩
     refine (callsIn_wide.2 hrd).mono ?_
     rintro e W3 ⟨rfl, hpr3, hk3⟩
     rw [HST.out] at hpr3
     have L3 := L1.kr G hk3 hpr3
     have k3 : KpO pb W0.heap.size A1 W3 := KpO.kr hk3 (by omega) (by omega) (by omega) (L1.no _ (by omega) (by omega)) (fun k h1 h2 => L1.no k (by omega) (by omega))
     have J3 := hJ _ _ _ J1 k3
     have b3 : Below w0.heap.size w0 W3 := b1.trans (k3.below.mono (by omega))
     have xs3 : W3.heap[bs]? = some sl := (k3.below.block bs (by omega)).trans xs1
     have L4 := L3.more G
     have k4 : KpO pb W0.heap.size W3 (W3.setCell ⟨R.heap.size, 0, none⟩ (.int .i64 ((i : Int) + 1))) := (KpO.refl _ _ _).set (by omega) L3.no2.1 _
     have J4 := hJ _ _ _ J3 k4
     have b4 : Below w0.heap.size w0 (W3.setCell ⟨R.heap.size, 0, none⟩ (.int .i64 ((i : Int) + 1))) := b3.trans (k4.below.mono (by omega))
     have xs4 : (W3.setCell ⟨R.heap.size, 0, none⟩ (.int .i64 ((i : Int) + 1))).heap[bs]? = some sl := (k4.below.block bs (by omega)).trans xs3
     have c3 : W3.cell? ⟨R.heap.size, 0, none⟩ = some (.int .i64 (i : Int)) := by simp [World.cell?, L3.len]
     have f3 : W3.frozen? ⟨R.heap.size, 0, none⟩ = false := by simp [World.frozen?, L3.len]
     obtain ⟨W4, hW4⟩ : ∃ W4, W3.setCell ⟨R.heap.size, 0, none⟩ (.int .i64 ((i : Int) + 1)) = W4 := ⟨_, rfl⟩
     rw [hW4] at L4 J4 b4 xs4
     have e4 : W4.cell? ⟨R.heap.size, 0, none⟩ = some (.int .i64 ((i : Int) + 1)) := by simp [World.cell?, L4.len]
     obtain ⟨_, t4, t5⟩ := L4.pr.tell
     simp only [Nat.zero_add] at t4 t5
     have ty4 : W4.cell? ⟨W0.heap.size, 0, none⟩ = some (.func (.yield l) #[] #[]) := by simp [World.cell?, L4.y]
     have s4 := L4.sz
     have HJ4 := hide J4
     have HB4 := hide b4
     have HX4 := hide xs4
     have HL4 := hide L4
     have hdead : Hid ((E.run zs x.ps (i + 1)).go = false → ∀ W, J (i + 2) W → J (zs.length + 1) W) := hide (fun hg W hj => skips hskip (by omega) (fun k h1 h2 => hit_dead zs x (by omega) (show i + 1 ≤ k by omega) hg) hj)
     have hhit : Hid (hit zs x (i + 1) = (E.run zs x.ps (i + 1)).en) := hide (by unfold hit; rw [if_neg (by omega)])
     have HSK := hide hskip
     have HYY := hide hY
     have hngo : Hid ((E.run zs x.ps (i + 1)).en = true → (E.run zs x.ps (i + 1)).go = true) := hide (fun he => by
       cases hg : (E.run zs x.ps (i + 1)).go with
       | true => rfl
       | false => rw [(E.run_ok zs x (i + 1)).en_go hg] at he; cases he)
     clear hrd clen L1 J1 b1 xs1 L3 J3 b3 xs3 k3 k4 hk3 hpr3 J4 b4 xs4 L4 hfl HST hskip hY hlt
     have fin : ∀ (W5 : World), LS w0 pb m0 R.heap.size W0.heap.size R.heap.size W1.heap.size (W0.heap.size + 1) W1.heap.size (R.heap.size + 1) (.cells #[.func (.yield l) #[] #[]] 89) (E.run zs x.ps (i + 1)) (i + 1) (.loop rb') W5 → J (i + 2) W5 → Below w0.heap.size w0 W5 → W5.heap[bs]? = some sl →
         W5.heap[R.heap.size + 1 + 1]? = some (.loop rb') ∧ Below w0.heap.size w0 (W5.putObj (R.heap.size + 1 + 1) (.loop r)) ∧ (W5.putObj (R.heap.size + 1 + 1) (.loop r)).heap[bs]? = some sl ∧ J (i + 1 + 1) (W5.putObj (R.heap.size + 1 + 1) (.loop r)) ∧ LS w0 pb m0 R.heap.size W0.heap.size R.heap.size W1.heap.size (W0.heap.size + 1) W1.heap.size (R.heap.size + 1) (.cells #[.func (.yield l) #[] #[]] 89) (E.run zs x.ps (i + 1)) (i + 1) (.loop r) (W5.putObj (R.heap.size + 1 + 1) (.loop r)) := by
       intro W5 q1 q2 q3 q4
       have kk : KpO pb W0.heap.size W5 (W5.putObj (R.heap.size + 1 + 1) (.loop r)) := (KpO.refl _ _ _).put (by omega) q1.no2.2.2 _
       exact ⟨q1.rec_, q3.trans (kk.below.mono (by omega)), (World.putObj_heap_other (by omega)).trans q4, hJ _ _ _ q2 kk, q1.put G _⟩
     have FIN := hide fin
     clear fin
     cases hen : (E.run zs x.ps (i + 1)).en with
     | true =>
       rw [hen] at t4
       have hgo := hngo.out hen
       rw [hgo] at t5
       obtain ⟨fn, tmps, assign, body, hy, hR⟩ := yield_anyN (n - 1 - 1 - 1) (HYY.out (i + 1) (by omega) (by rw [hhit.out]; exact hen) W4 HJ4.out (by omega) HB4.out)
       have ecast : (((i + 1 : Nat) : Int)) = (i : Int) + 1 := by omega
       rw [ecast] at hy
       gi_wp2
       refine ⟨(fun h => by cases h), RoundIn.mono (F := Fence.wide.inRound (R.heap.size + 1 + 1)) hR ?_⟩
       rintro e W5 (⟨rfl, hfr, hJ5⟩ | ⟨rfl, hfx, hS5⟩)
       · have L5 := HL4.out.fr G hfr
         have b5 := HB4.out.trans hfr.below
         have xs5 : W5.heap[bs]? = some sl := (hfr.hi bs (by omega) (by omega) (HL4.out.no bs (by omega) (by omega))).trans HX4.out
         have u5 := L5.pr.tell.2.2
         rw [hgo] at u5
         simp only [Nat.zero_add] at u5
         obtain ⟨f1, f2, f3', f4, f5⟩ := FIN.out W5 L5 hJ5 b5 xs5
         clear hy hR hfr t4 t5 e4 ty4 L5
         gi_wp2
         exact ⟨f1, .inl ⟨rfl, f2, f3', f4, f5⟩⟩
       · have r5 := (hfx (R.heap.size + 1 + 1) (by omega) (by omega) (by omega) HL4.out.no2.2.2).trans HL4.out.rec_
         have d5 := (hfx (R.heap.size + 1) (by omega) (by omega) (by omega) HL4.out.no2.2.1).trans HL4.out.def_
         have HS5 := hide hS5
         have R5 := hide r5
         have D5 := hide d5
         clear hy hR hfx hS5 t4 t5 e4 ty4 r5 d5
         gi_wp2
         refine ⟨R5.out, fun rd h1 h2 => .inr ⟨rfl, .inr ⟨i + 1, by omega, hS _ _ _ HS5.out (below_put _ _ (by omega))⟩, ⟨rd, h1, h2, World.putObj_heap_same (Array.getElem?_eq_some_iff.1 R5.out).1⟩, (World.putObj_heap_other (by omega)).trans D5.out⟩⟩
     | false =>
       rw [hen] at t4
       have J5 : J (i + 2) W4 := HSK.out _ _ (by rw [hhit.out]; exact hen) HJ4.out
       cases hgo : (E.run zs x.ps (i + 1)).go with
       | true =>
         rw [hgo] at t5
         obtain ⟨f1, f2, f3', f4, f5⟩ := FIN.out W4 HL4.out J5 HB4.out HX4.out
         gi_wp2
         refine ⟨(fun _ h => by cases h), ?_⟩
         gi_wp2
         exact ⟨f1, .inl ⟨rfl, f2, f3', f4, f5⟩⟩
       | false =>
         rw [hgo] at t5
         have J6 := hdead.out hgo _ J5
         have r5 := HL4.out.rec_
         have d5 := HL4.out.def_
         have n5 := HL4.out.no2.2
         gi_wp2
         refine ⟨(fun _ h => by cases h), ?_⟩
         gi_wp2
         refine ⟨r5, fun rd h1 h2 => .inr ⟨rfl, .inl ⟨hJ _ _ _ J6 ((KpO.refl _ _ _).put (by omega) n5.2 _), fun ho => n5.1 (ho.of (World.putObj_heap_other (by omega))), fun ho => n5.2 (ho.of (World.putObj_heap_other (by omega)))⟩, ⟨rd, h1, h2, World.putObj_heap_same (Array.getElem?_eq_some_iff.1 r5).1⟩, (World.putObj_heap_other (by omega)).trans d5⟩⟩
   rintro e W' ⟨hv, h⟩
   refine ⟨hv, ?_⟩
   rcases h with ⟨j1, jL⟩ | ⟨i, hi, hst, ⟨rd, hd1, hd2, hd3⟩, j4⟩
   · refine .inl ⟨jL.rec_, fun r' => ?_⟩
     have k4 := (World.putObj_heap_other (w := W') (o := .loop r') (show R.heap.size + 1 ≠ R.heap.size + 1 + 1 by omega)).trans jL.def_
     have kk : KpO pb W0.heap.size W' (W'.putObj (R.heap.size + 1 + 1) (.loop r')) := (KpO.refl _ _ _).put (by omega) jL.no2.2.2 _
     have kJ := hJ _ _ _ j1 kk
     have kn : ¬ Ow pb (W'.putObj (R.heap.size + 1 + 1) (.loop r')) (R.heap.size + 1) := fun ho => jL.no2.2.1 (ho.of (kk.below.block pb (by omega)))
     generalize W'.putObj (R.heap.size + 1 + 1) (.loop r') = W9 at *
     clear jL
     gi_wp2
     refine ⟨by simp, .inl ⟨_, _, rfl, run_takeDeferred k4, ?_⟩⟩
     exact ⟨_, results_none rfl _ _ _, ⟨_, rfl⟩, .inl (hJ _ _ _ kJ ((KpO.refl _ _ _).put (by omega) kn _))⟩
   · refine .inr ⟨rd, hd1, hd2, hd3, fun r' => ?_⟩
     have k4 := (World.putObj_heap_other (w := W') (o := .loop r') (show R.heap.size + 1 ≠ R.heap.size + 1 + 1 by omega)).trans j4
     have hpbk : (W'.putObj (R.heap.size + 1 + 1) (.loop r')).heap[pb]? = W'.heap[pb]? := World.putObj_heap_other (by omega)
     have kS : (J (zs.length + 1) (W'.putObj (R.heap.size + 1 + 1) (.loop r')) ∧ ¬ Ow pb (W'.putObj (R.heap.size + 1 + 1) (.loop r')) (R.heap.size + 1)) ∨ ∃ m, m ≤ zs.length ∧ Stop m (W'.putObj (R.heap.size + 1 + 1) (.loop r')) := by
       rcases hst with ⟨p1, p2, p3⟩ | ⟨m, p1, p2⟩
       · exact .inl ⟨hJ _ _ _ p1 ((KpO.refl _ _ _).put (by omega) p3 _), fun ho => p2 (ho.of hpbk)⟩
       · exact .inr ⟨m, p1, hS _ _ _ p2 (below_put _ _ (by omega))⟩
     clear hst hpbk
     generalize W'.putObj (R.heap.size + 1 + 1) (.loop r') = W9 at *
     gi_wp2
     refine ⟨by simp, .inl ⟨_, _, rfl, run_takeDeferred k4, ?_⟩⟩
     refine ⟨_, results_none rfl _ _ _, ⟨_, rfl⟩, ?_⟩
     rcases kS with ⟨p1, p2⟩ | ⟨m, p1, p2⟩
     · exact .inl (hJ _ _ _ p1 ((KpO.refl _ _ _).put (by omega) p2 _))
     · exact .inr ⟨m, p1, hS _ _ _ p2 (below_put _ _ (by omega))⟩
end Go.Proofs.YtemanednddhfaaaGreatDoor
namespace Go.Proofs.YtemanednddhfaaaGreatDoor
open Go.RowKit Go.Shelf
open E (Ps Rx T rxOf Vp)
attribute [local go_sem] Oper.semAt_some
namespace E
def PlainP (t : T) : Prop := IsP t ∧ vnk (pre t t) = []
theorem compact_nil {l : List (List UInt8)} : (Go.Lib.compact l).length = 0 ↔ l = [] := by
 constructor
 · intro h
   cases l with
   | nil => rfl
   | cons a l =>
     exfalso
     unfold Go.Lib.compact Go.Lib.compactUpTo at h
     rw [List.length_map, List.length_eq_zero_iff, List.filter_eq_nil_iff] at h
     exact h 0 (List.mem_range.2 (by simp)) (Go.Lib.keeps_lt_one _ 0 (by omega))
 · rintro rfl
   have := Go.Lib.compact_length_le ([] : List (List UInt8))
   simpa using this
theorem nmL_nil (t : T) : (nmL t).length = 0 ↔ vnk (pre t t) = [] := by
 unfold nmL
 rw [compact_nil]
 constructor
 · intro h
   have := congrArg List.length h
   rw [List.length_mergeSort] at this
   exact List.eq_nil_of_length_eq_zero this
 · intro h; rw [h]; simp
theorem vp_of : ∀ (t : T), (∀ p ∈ pre t t, NodeOk p.1) → vnk (pre t t) = [] → Vp t
 | .mk k a s n ks, h, hv => by
   have h0 : NodeOk (.mk k a s n ks) := h (.mk k a s n ks, .mk k a s n ks) (by rw [pre_eq]; simp)
   have hk2 : k ≠ 2 := by
     rintro rfl
     rw [pre_eq] at hv
     simp [vnk, T.kind] at hv
   have hkids : ∀ p ∈ preK ks ks, NodeOk p.1 := fun p hp => h p (by rw [pre_eq]; exact List.mem_cons_of_mem _ hp)
   have hvk : vnk (preK ks ks) = [] := by
     rw [pre_eq] at hv
     simpa [vnk, T.kind, T.kids, hk2] using hv
   obtain ⟨h1, h2⟩ := h0
   simp only [T.kids, T.kind, T.name, T.set] at h1 h2
   match ks, h1, hkids, hvk with
   | [], h1, _, _ =>
     rw [Vp]
     rcases h2 with ⟨e, _, hl, _⟩ | ⟨e, _⟩ | ⟨e1, e2, e3, _⟩
     · exact ⟨.inl e, by omega⟩
     · exact absurd e hk2
     · refine ⟨.inr ?_, by rw [e3]; simp⟩
       unfold kidsOf at h1
       simp at h1
       split at h1 <;> first | omega | (split at h1 <;> omega)
   | [x], h1, hkids, hvk =>
     rw [Vp]
     refine ⟨?_, vp_of x (fun p hp => hkids p (by rw [preK_cons]; exact List.mem_append_left _ hp)) ?_⟩
     · unfold kidsOf at h1
       simp at h1
       split at h1 <;> first | omega | (split at h1 <;> omega)
     · rw [preK_cons, preK_nil, List.append_nil] at hvk
       exact hvk
   | [x, y], h1, hkids, hvk =>
     rw [Vp]
     have hvs : vnk (pre x x) = [] ∧ vnk (pre y y) = [] := by
       rw [preK_cons, preK_cons, preK_nil, List.append_nil] at hvk
       unfold vnk at hvk ⊢
       rw [List.filter_append, List.map_append, List.append_eq_nil_iff] at hvk
       exact hvk
     refine ⟨?_, vp_of x (fun p hp => hkids p (by rw [preK_cons]; exact List.mem_append_left _ hp)) hvs.1, vp_of y (fun p hp => hkids p (by rw [preK_cons, preK_cons]; exact List.mem_append_right _ (List.mem_append_left _ hp))) hvs.2⟩
     unfold kidsOf at h1
     simp at h1
     split at h1 <;> first | omega | (split at h1 <;> omega)
   | x :: y :: z :: r, h1, _, _ =>
     exfalso
     unfold kidsOf at h1
     simp only [List.length_cons] at h1
     split at h1 <;> first | omega | (split at h1 <;> omega)
theorem PlainP.vp {t : T} (h : PlainP t) : Vp t := vp_of t h.1.2 h.2
theorem IsP.names {t : T} (h : IsP t) : ∀ p ∈ pre t t, p.1.name.length ≤ 100000 := by
 intro p hp
 rcases (h.2 p hp).2 with ⟨_, e, _⟩ | ⟨_, _, e⟩ | ⟨_, _, _, e⟩
 · rw [e]; simp
 · unfold nameP at e
   simp only [Bool.and_eq_true, decide_eq_true_eq] at e
   omega
 · rw [e]; simp
end E
set_option maxRecDepth 100000 in
set_option maxHeartbeats 1000000 in
theorem plain_any (t : T) (d : ND) (w : World) (htab : Tabs w) (hT : TR w (fun _ => True) t d.v) (hps : (E.pre t t).length ≤ 1000000) (hnb : ∀ p ∈ E.pre t t, E.NodeB p.1) :
   Calls Tryz.prog 59 #[d.v] w fun e W' => U.Told (E.PlainP t) e ∧ Below w.heap.size w W' := by
 have a1 := al1 w (.cells #[.int .i64 d.k, .int .i64 d.a, .slice d.sp d.sl d.sc, .string d.n, .slice d.kp d.kl d.kc] 26)
 have n1 := heap_alloc_new w (.cells #[.int .i64 d.k, .int .i64 d.a, .slice d.sp d.sl d.sc, .string d.n, .slice d.kp d.kl d.kc] 26)
 have h1 := is_any7 t d _ (htab.later a1) (TR.later (fun k hk => a1.block k hk) _ hT) hps hnb
 have HT := hide hT
 clear hT
 unfold ND.v at h1 ⊢
 go_enter Tryz.func59, Tryz.ntmps59
 go_wp2_with fail
 refine h1.mono ?_
 rintro e W1 ⟨⟨b, rfl, hb⟩, hb1⟩
 have b1 := nx a1 hb1
 have z0 : (w.alloc (.cells #[.int .i64 d.k, .int .i64 d.a, .slice d.sp d.sl d.sc, .string d.n, .slice d.kp d.kl d.kc] 26)).heap.size = w.heap.size + 1 := by simp
 have m1 := (hb1.block w.heap.size (by omega)).trans n1
 obtain ⟨q0, q1, q2, q3, q4⟩ := cells_five m1
 have HB := hide hb
 clear h1 hb n1 m1
 cases b with
 | true =>
   have hI := HB.out.1 rfl
   have h2 := names_any t d W1 (TR.later (fun k hk => b1.block k hk) _ HT.out) hps hI.names
   unfold ND.v at h2
   have HI := hide hI
   clear hI HB
   go_wp2_with fail
   refine h2.mono ?_
   rintro e W2 ⟨u, rfl, ho, hb2⟩
   obtain ⟨ao, cap, rfl⟩ : ∃ ao cap, u = .slice ao (E.nmL t).length cap := by
     obtain ⟨_, ⟨e, h⟩ | ⟨g, cap, cur, e, _⟩⟩ := ho
     · exact ⟨none, 0, by rw [e, h]⟩
     · exact ⟨_, _, e⟩
   have b2 := nx b1 hb2
   have HN := hide (E.nmL_nil t)
   clear h2 ho hb2 q0 q1 q2 q3 q4
   generalize (E.nmL t).length = n at *
   go_wp2
   go_ret
   refine ⟨?_, b2⟩
   refine ⟨_, rfl, ?_⟩
   have := HN.out
   unfold E.PlainP
   simp only [HI.out, true_and, ← this]
   simp
 | false =>
   have hI : ¬ E.IsP t := fun h => by have := HB.out.2 h; cases this
   have HI := hide hI
   clear HB hI
   go_wp2
   go_ret
   exact ⟨U.told_no (fun h => HI.out h.1), b1⟩
end Go.Proofs.YtemanednddhfaaaGreatDoor
namespace Go.Proofs.YtemanednddhfaaaGreatDoor
open Go.RowKit Go.Shelf
open E (Ps Rx T rxOf Vp)
attribute [local go_sem] Oper.semAt_some
def NoPan (Q : Exit → Act → World → Prop) : Exit → Act → World → Prop
 | .normal, a, w => Q .normal a w
 | _, _, _ => False
theorem noPan {F : Fence} {n : Nat} {P : Program} {c : Code} {Q : Exit → Act → World → Prop} {a : Act} {w : World} (h : c.wpIn F n P (NoPan Q) a w) : c.wpIn F n P Q a w := by
 refine wpIn_mono h ?_
 intro e a w h
 cases e <;> first | exact h | exact h.elim
theorem res37 (tmps : Array Value) (W : World) (n : Nat) (b : Bool) (h : tmps.getD 4 undef = .pointer (some ⟨n, 0, none⟩)) (hc : W.cell? ⟨n, 0, none⟩ = some (.bool b)) :
   (results Tryz.f26 tmps).run Tryz.prog W = .ok (.bool b) W := by
 rw [res_cell (p := 4) (ty := 4) rfl, h]
 simp [asAddr, loadVar, Sem.run_bind, Result.andThen, go_sem, hc]
theorem ow_bool {pb : Nat} {W : World} {b : Bool} {t : TypeId} (h : W.heap[pb]? = some (.cells #[.bool b] t)) (k : Nat) : ¬ Ow pb W k := by
 rintro ⟨v, t', f, h1, h2⟩
 rw [h] at h1
 cases h1
 cases h2
theorem fwd_mk (t : T) (hV : Vp t) (d : ND) (w0 : World) (hT : TR w0 (fun _ => True) t d.v) : ∀ W, Below w0.heap.size w0 W → Calls Tryz.prog 61 #[d.v] W fun e W' => ∃ v, e = .returned v ∧ PV w0 W' (rxOf t).ps v W.heap.size W'.heap.size ∧ Below W.heap.size W W' := fun W hB => fwd_any t hV w0 W d hT hB
def AllP (t : T) (xs : List Int) : Prop := E.PlainP t ∧ (rxOf t).L xs
set_option maxRecDepth 100000 in
set_option maxHeartbeats 4000000 in
theorem allM_in (t : T) (d : ND) (w : World) (htab : Tabs w) (hT : TR w (fun _ => True) t d.v) (hps : (E.pre t t).length ≤ 1000000) (hnb : ∀ p ∈ E.pre t t, E.NodeB p.1) (ao : Option Addr) (cap : Nat) (xs : List Int) (hx : RdC32 w ao xs) (hlen : xs.length ≤ 1000000) :
   CallsIn Fence.wide 9 Tryz.prog 26 #[d.v, .slice ao xs.length cap] w fun e W' => U.Told (AllP t xs) e ∧ Below w.heap.size w W' := by
 have hpl := fun W hb => plain_any t d W (htab.later hb) (TR.later (fun k hk => Below.block hb k hk) _ hT) hps hnb
 unfold ND.v at hpl ⊢
 refine callsIn_of_wp_marks Tryz.func26 rfl trivial ?_ rfl
 simp only [Tryz.ntmps26, List.size_toArray, List.length_cons, List.length_nil, Nat.reduceAdd, Nat.reduceSub, Array.replicate_succ, Array.replicate_zero, List.push_toArray, List.append_toArray, List.nil_append, List.cons_append]
 have a1 := al1 w (.cells #[.int .i64 d.k, .int .i64 d.a, .slice d.sp d.sl d.sc, .string d.n, .slice d.kp d.kl d.kc] 26)
 have n1 := heap_alloc_new w (.cells #[.int .i64 d.k, .int .i64 d.a, .slice d.sp d.sl d.sc, .string d.n, .slice d.kp d.kl d.kc] 26)
 have a2 := al1 (w.alloc (.cells #[.int .i64 d.k, .int .i64 d.a, .slice d.sp d.sl d.sc, .string d.n, .slice d.kp d.kl d.kc] 26)) (.cells #[.slice ao xs.length cap] 53)
 have n2 := heap_alloc_new (w.alloc (.cells #[.int .i64 d.k, .int .i64 d.a, .slice d.sp d.sl d.sc, .string d.n, .slice d.kp d.kl d.kc] 26)) (.cells #[.slice ao xs.length cap] 53)
 have a3 := al1 ((w.alloc (.cells #[.int .i64 d.k, .int .i64 d.a, .slice d.sp d.sl d.sc, .string d.n, .slice d.kp d.kl d.kc] 26)).alloc (.cells #[.slice ao xs.length cap] 53)) (.cells #[.bool false] 4)
 have n3 := heap_alloc_new ((w.alloc (.cells #[.int .i64 d.k, .int .i64 d.a, .slice d.sp d.sl d.sc, .string d.n, .slice d.kp d.kl d.kc] 26)).alloc (.cells #[.slice ao xs.length cap] 53)) (.cells #[.bool false] 4)
 have s3 : (((w.alloc (.cells #[.int .i64 d.k, .int .i64 d.a, .slice d.sp d.sl d.sc, .string d.n, .slice d.kp d.kl d.kc] 26)).alloc (.cells #[.slice ao xs.length cap] 53)).alloc (.cells #[.bool false] 4)).heap.size = w.heap.size + 3 := by simp
 rw [World.size_alloc] at n2
 rw [World.size_alloc, World.size_alloc] at n3
 have m1 := ((nx a2 a3).block w.heap.size (by simp)).trans n1
 have m2 := (a3.block (w.heap.size + 1) (by simp)).trans n2
 have b3 := nx a1 (nx a2 a3)
 have hp := hpl _ b3
 clear hpl n1 n2 a1 a2 a3
 gi_wp2_with fail
 refine ⟨trivial, (callsIn_wide.2 hp).mono ?_⟩
 rintro e W1 ⟨⟨b, rfl, hb⟩, hb1⟩
 have hs1 := hb1.size
 rw [s3] at hs1
 have x1 := (hb1.block w.heap.size (by omega)).trans m1
 have x2 := (hb1.block (w.heap.size + 1) (by omega)).trans m2
 have x3 := (hb1.block (w.heap.size + 2) (by omega)).trans n3
 have bW := nx b3 hb1
 have HB := hide hb
 clear hp hb hb1 m1 m2 n3 b3 s3
 cases b with
 | false =>
   have hI : Hid (¬ E.PlainP t) := hide (fun h => by have := HB.out.2 h; cases this)
   have c3 : W1.cell? ⟨w.heap.size + 2, 0, none⟩ = some (.bool false) := by simp [World.cell?, x3]
   have f3 : W1.frozen? ⟨w.heap.size + 2, 0, none⟩ = false := by simp [World.frozen?, x3]
   clear HB x1 x2
   gi_wp2
   refine ⟨.bool false, res37 _ _ (w.heap.size + 2) false rfl (by simp [World.cell?, World.setCell, Array.getElem?_modify, x3]), U.told_no (fun h => hI.out h.1), bW.setCell (p := ⟨w.heap.size + 2, 0, none⟩) (by show w.heap.size ≤ w.heap.size + 2; omega) _⟩
 | true =>
   have hI := hide (HB.out.1 rfl)
   clear HB
   gi_wp2
   have kx : ∀ w', Below (w.heap.size + 3) W1.drew w' → w'.heap[w.heap.size]? = some (.cells #[.int .i64 d.k, .int .i64 d.a, .slice d.sp d.sl d.sc, .string d.n, .slice d.kp d.kl d.kc] 26) ∧ w'.heap[w.heap.size + 1]? = some (.cells #[.slice ao xs.length cap] 53) := fun w' hb => ⟨(hb.block _ (by omega)).trans x1, (hb.block _ (by omega)).trans x2⟩
   refine noPan (wpIn_wide.2 ?_)
   refine Reg.start (B := w.heap.size + 3) (by kernel_rfl) ?_
   refine Reg.take (fun _ _ _ _ _ h => h) 0 _ 9 (.agg #[.int .i64 d.k, .int .i64 d.a, .slice d.sp d.sl d.sc, .string d.n, .slice d.kp d.kl d.kc]) rfl (by kernel_rfl) (by kernel_rfl) (by kernel_rfl) rfl (by kernel_rfl) (by kernel_rfl) (fun w' hb => Reg.ldN rfl rfl (kx w' hb).1) ?_
   refine Reg.take (fun _ _ _ _ _ h => h) 1 _ 10 (.slice ao xs.length cap) rfl (by kernel_rfl) (by kernel_rfl) (by kernel_rfl) rfl (by kernel_rfl) (by kernel_rfl) (fun w' hb => Reg.ldS rfl rfl (by simp [World.cell?, (kx w' hb).2]) (Tryz.isAgg53 _)) ?_
   refine Reg.call 2 _ 11 62 _ _ #[.slice ao xs.length cap] rfl (by kernel_rfl) rfl (by kernel_rfl) (by kernel_rfl) rfl (by kernel_rfl) (by kernel_rfl) (all_make ao xs.length cap W1.drew) ?_
   rintro e w4 ⟨rfl, rfl⟩
   have y0 := heap_alloc_new W1.drew (.cells #[.slice ao xs.length cap] 53)
   have yb := al1 W1.drew (.cells #[.slice ao xs.length cap] 53)
   have ys : (W1.drew.alloc (.cells #[.slice ao xs.length cap] 53)).heap.size = W1.heap.size + 1 := by simp
   refine ⟨_, w.heap.size + 3, rfl, Nat.le_refl _, yb.mono hs1, ?_⟩
   obtain ⟨Y, hY0⟩ : ∃ Y, W1.drew.alloc (.cells #[.slice ao xs.length cap] 53) = Y := ⟨_, rfl⟩
   rw [hY0] at y0 yb ys ⊢
   have hlm := lens_make 61 96 W1.heap.size d Y
   unfold ND.v at hlm
   refine Reg.call 3 _ 12 60 _ _ #[.agg #[.int .i64 d.k, .int .i64 d.a, .slice d.sp d.sl d.sc, .string d.n, .slice d.kp d.kl d.kc], .func (.func 61) #[] #[], .func (.func 96) #[] #[.pointer (some ⟨W1.heap.size, 0, none⟩)]] rfl (by kernel_rfl) rfl (by kernel_rfl) (by kernel_rfl) rfl (by kernel_rfl) (by kernel_rfl) hlm ?_
   rintro e w5 ⟨rfl, rfl⟩
   clear hlm hY0 kx
   have v1 := al1 Y (.cells #[.int .i64 d.k, .int .i64 d.a, .slice d.sp d.sl d.sc, .string d.n, .slice d.kp d.kl d.kc] 26)
   have u1 := heap_alloc_new Y (.cells #[.int .i64 d.k, .int .i64 d.a, .slice d.sp d.sl d.sc, .string d.n, .slice d.kp d.kl d.kc] 26)
   have v2 := al1 (Y.alloc (.cells #[.int .i64 d.k, .int .i64 d.a, .slice d.sp d.sl d.sc, .string d.n, .slice d.kp d.kl d.kc] 26)) (.cells #[.func (.func 61) #[] #[]] 105)
   have u2 := heap_alloc_new (Y.alloc (.cells #[.int .i64 d.k, .int .i64 d.a, .slice d.sp d.sl d.sc, .string d.n, .slice d.kp d.kl d.kc] 26)) (.cells #[.func (.func 61) #[] #[]] 105)
   have v3 := al1 ((Y.alloc (.cells #[.int .i64 d.k, .int .i64 d.a, .slice d.sp d.sl d.sc, .string d.n, .slice d.kp d.kl d.kc] 26)).alloc (.cells #[.func (.func 61) #[] #[]] 105)) (.cells #[.func (.func 96) #[] #[.pointer (some ⟨W1.heap.size, 0, none⟩)]] 107)
   have u3 := heap_alloc_new ((Y.alloc (.cells #[.int .i64 d.k, .int .i64 d.a, .slice d.sp d.sl d.sc, .string d.n, .slice d.kp d.kl d.kc] 26)).alloc (.cells #[.func (.func 61) #[] #[]] 105)) (.cells #[.func (.func 96) #[] #[.pointer (some ⟨W1.heap.size, 0, none⟩)]] 107)
   rw [World.size_alloc] at u2
   rw [World.size_alloc, World.size_alloc] at u3
   have e1 := ((nx v2 v3).block Y.heap.size (by simp)).trans u1
   have e2 := (v3.block (Y.heap.size + 1) (by simp)).trans u2
   have vb := nx v1 (nx v2 v3)
   have e0 := (vb.block W1.heap.size (by omega)).trans y0
   have sX : (((Y.alloc (.cells #[.int .i64 d.k, .int .i64 d.a, .slice d.sp d.sl d.sc, .string d.n, .slice d.kp d.kl d.kc] 26)).alloc (.cells #[.func (.func 61) #[] #[]] 105)).alloc (.cells #[.func (.func 96) #[] #[.pointer (some ⟨W1.heap.size, 0, none⟩)]] 107)).heap.size = Y.heap.size + 3 := by simp
   have vb1 := nx yb vb
   refine ⟨_, w.heap.size + 3, rfl, Nat.le_refl _, vb.mono (by omega), ?_⟩
   obtain ⟨X, hX⟩ : ∃ X, ((Y.alloc (.cells #[.int .i64 d.k, .int .i64 d.a, .slice d.sp d.sl d.sc, .string d.n, .slice d.kp d.kl d.kc] 26)).alloc (.cells #[.func (.func 61) #[] #[]] 105)).alloc (.cells #[.func (.func 96) #[] #[.pointer (some ⟨W1.heap.size, 0, none⟩)]] 107) = X := ⟨_, rfl⟩
   rw [hX] at e1 e2 u3 e0 sX vb vb1 ⊢
   refine Reg.done (by kernel_rfl) ?_
   simp only [NoPan, Reg.ov, Act.put, List.setIfInBounds_toArray, List.set_cons_succ, List.set_cons_zero]
   rw [show Y.heap.size + 1 + 1 = Y.heap.size + 2 from rfl] at u3
   rw [ys] at e1 e2 u3 sX ⊢
   have xb2 := (vb1.block (w.heap.size + 1) (show w.heap.size + 1 < W1.heap.size by omega)).trans x2
   have xb3 := (vb1.block (w.heap.size + 2) (show w.heap.size + 2 < W1.heap.size by omega)).trans x3
   have bX : Below w.heap.size w X := bW.drew.trans (vb1.mono (show w.heap.size ≤ W1.heap.size by omega))
   have sX2 : W1.heap.size + 4 ≤ X.heap.size := by omega
   clear hX v1 v2 v3 u1 u2 vb vb1 yb y0 x1 x2 x3 sX ys
   gi_wp2
   refine enter3 (gf := 92) (lb := #[.pointer (some ⟨W1.heap.size + 1 + 1, 0, none⟩), .pointer (some ⟨W1.heap.size + 1, 0, none⟩), .pointer (some ⟨W1.heap.size + 1 + 2, 0, none⟩)]) rfl (enters_of Tryz.func92 (by kernel_rfl) rfl) ?_
   intro r We hr hrec hdef hszE hbE
   have bE := bX.trans (hbE.mono (by have := bX.size; omega))
   have k2 := (hbE.block (w.heap.size + 1) (by omega)).trans xb2
   have k3 := (hbE.block (w.heap.size + 2) (by omega)).trans xb3
   refine (lens66_in 8 (by omega) w (rxOf t) d xs (w.heap.size + 3) (w.heap.size + 2) (W1.heap.size + 1 + 1) (W1.heap.size + 1) (W1.heap.size + 1 + 2) W1.heap.size (X.heap.size + 1) _ (fwd_mk t hI.out.vp d w hT) (pts_all hx hlen W1.heap.size) hlen (by omega) (by omega) (by omega) (by omega)
     (fun m A => A.heap[w.heap.size + 2]? = some (.cells #[.bool false] 4) ∧ A.heap[w.heap.size + 1]? = some (.cells #[.slice ao xs.length cap] 53) ∧ A.heap[X.heap.size + 1]? = some (.loop r) ∧ A.heap[X.heap.size]? = some (.deferred (some [])) ∧ Below w.heap.size w A ∧ (xs.length < m → hit xs (rxOf t) xs.length = false))
     (fun m A => A.heap[w.heap.size + 2]? = some (.cells #[.bool true] 4) ∧ (∃ rd : Loop, rd.state = .done ∧ rd.pending = some .ret ∧ A.heap[X.heap.size + 1]? = some (.loop rd)) ∧ A.heap[X.heap.size]? = some (.deferred (some [])) ∧ Below w.heap.size w A ∧ hit xs (rxOf t) xs.length = true)
     We ((hbE.block _ (by omega)).trans e2) ((hbE.block _ (by omega)).trans e1) ((hbE.block _ (by omega)).trans u3) ((hbE.block _ (by omega)).trans e0) bE (by omega) (by omega) ?stable ?stops ?skip ?lt (fun k _ => ow_bool k3 k) ?round ⟨k3, k2, hrec.out, hdef.out, bE, by omega⟩).mono ?_
   case stable =>
     rintro m A A' ⟨j1, j2, j3, j4, j5, j6⟩ hb
     exact ⟨(hb.below.block _ (by omega)).trans j1, (hb.below.block _ (by omega)).trans j2, (hb.below.block _ (by omega)).trans j3, (hb.below.block _ (by omega)).trans j4, j5.trans (hb.below.mono (by omega)), j6⟩
   case stops =>
     rintro m A A' ⟨j1, ⟨rd, h1, h2, j3⟩, j4, j5, j6⟩ hb
     exact ⟨(hb.block _ (by omega)).trans j1, ⟨rd, h1, h2, (hb.block _ (by omega)).trans j3⟩, (hb.block _ (by omega)).trans j4, j5.trans (hb.mono (by omega)), j6⟩
   case skip =>
     rintro m A hm ⟨j1, j2, j3, j4, j5, j6⟩
     refine ⟨j1, j2, j3, j4, j5, fun h => ?_⟩
     by_cases he : xs.length = m
     · rw [he]; exact hm
     · exact j6 (by omega)
   case lt =>
     rintro m A ⟨j1, _⟩ k ho
     exact absurd ho (ow_bool j1 k)
   case round =>
     rintro m hm hhit A ⟨j1, j2, j3, j4, j5, j6⟩ hle hBA
     have HH := hide hhit
     have HJ6 := hide j6
     refine yield3 hr j3 rfl ?_
     gi_wp2
     have hl1 : X.heap.size + 1 < A.heap.size := (Array.getElem?_eq_some_iff.1 j3).1
     intro rb
     have hne : ∀ k, k ≠ X.heap.size + 1 → (A.putObj (X.heap.size + 1) (.loop rb)).heap[k]? = A.heap[k]? := fun k hk => World.putObj_heap_other hk
     have k1 := (hne (w.heap.size + 2) (by omega)).trans j1
     have k2 := (hne (w.heap.size + 1) (by omega)).trans j2
     have kr := hide (World.putObj_heap_same (w := A) (o := .loop rb) hl1)
     have ksz : (A.putObj (X.heap.size + 1) (.loop rb)).heap.size = A.heap.size := World.putObj_size
     have HNE := hide hne
     have kb : Hid (Below w.heap.size A (A.putObj (X.heap.size + 1) (.loop rb))) := hide (below_put _ _ (by omega))
     obtain ⟨A1, hA1⟩ : ∃ A1, A.putObj (X.heap.size + 1) (.loop rb) = A1 := ⟨_, rfl⟩
     rw [hA1] at k1 k2 kr ksz HNE kb ⊢
     have HS := hide ksz
     clear hA1 hne hhit j6 ksz
     have c1 : A1.cell? ⟨w.heap.size + 2, 0, none⟩ = some (.bool false) := by simp [World.cell?, k1]
     have f1 : A1.frozen? ⟨w.heap.size + 2, 0, none⟩ = false := by simp [World.frozen?, k1]
     have c2 : A1.cell? ⟨w.heap.size + 1, 0, none⟩ = some (.slice ao xs.length cap) := by simp [World.cell?, k2]
     have J1 := hide j1
     have J2 := hide j2
     have J3 := hide j3
     have J4 := hide j4
     have J5 := hide j5
     have K1 := hide k1
     clear j1 j2 j3 j4 j5 k1 k2
     by_cases hml : m = xs.length
     · have em : ((m : Int) == (xs.length : Int)) = true := by simp [hml]
       have em2 : (m == xs.length) = true := by simp [hml]
       have HM : Hid (hit xs (rxOf t) xs.length = true) := hide (by rw [← hml]; exact HH.out)
       clear hml HH
       gi_wp2
       have hn9 : ∀ k, k ≠ w.heap.size + 2 → (A1.setCell ⟨w.heap.size + 2, 0, none⟩ (.bool true)).heap[k]? = A1.heap[k]? := fun k hk => Below.heap_setCell _ _ _ _ hk
       have r9 := (hn9 (X.heap.size + 1) (by omega)).trans kr.out
       have s9 : (A1.setCell ⟨w.heap.size + 2, 0, none⟩ (.bool true)).heap[w.heap.size + 2]? = some (.cells #[.bool true] 4) := by simp [World.setCell, Array.getElem?_modify, K1.out]
       refine ⟨r9, fun rd h1 h2 => .inr ⟨rfl, fun k hk hk' hkl _ => ?_, (World.putObj_heap_other (by omega)).trans s9, ⟨rd, h1, h2, World.putObj_heap_same (Array.getElem?_eq_some_iff.1 r9).1⟩, ?_, ?_, HM.out⟩⟩
       · rw [World.putObj_heap_other hkl, hn9 k (by omega), HNE.out k hkl]
       · rw [World.putObj_heap_other (by omega), hn9 _ (by omega), HNE.out _ (by omega)]
         exact J4.out
       · exact (J5.out.trans kb.out).trans (((Below.refl _ _).setCell (p := ⟨w.heap.size + 2, 0, none⟩) (show w.heap.size ≤ w.heap.size + 2 by omega) _).trans (below_put _ _ (by omega)))
     · have em : ((m : Int) == (xs.length : Int)) = false := by simp; omega
       have em2 : (m == xs.length) = false := by simp; omega
       have hmlt : Hid (xs.length < m + 1 → hit xs (rxOf t) xs.length = false) := hide (fun h => HJ6.out (by omega))
       clear hml
       gi_wp2
       have hn9 : ∀ k, k ≠ X.heap.size + 1 → (A1.putObj (X.heap.size + 1) (.loop r)).heap[k]? = A.heap[k]? := fun k hk => (World.putObj_heap_other hk).trans (HNE.out k hk)
       have r9 : (A1.putObj (X.heap.size + 1) (.loop r)).heap[X.heap.size + 1]? = some (.loop r) := World.putObj_heap_same (by rw [HS.out]; exact hl1)
       have hall : ∀ k, (A1.putObj (X.heap.size + 1) (.loop r)).heap[k]? = A.heap[k]? := fun k => by
         by_cases he : k = X.heap.size + 1
         · rw [he, r9]; exact J3.out.symm
         · exact hn9 k he
       have b9 : Below w.heap.size A (A1.putObj (X.heap.size + 1) (.loop r)) := kb.out.trans (below_put _ _ (by omega))
       exact ⟨kr.out, .inl ⟨rfl, ⟨b9.os, b9.tape, b9.output, b9.size, fun k _ => hall k, fun k _ _ _ => hall k, fun k _ ho => ho.of (hall _).symm.symm⟩, (hall _).trans J1.out, (hall _).trans J2.out, r9, (hall _).trans J4.out, J5.out.trans b9, hmlt.out⟩⟩
   rintro e W' ⟨hv, h⟩
   refine ⟨hv, ?_⟩
   rcases h with ⟨j1, j2, j3, j4, j5, j6⟩ | ⟨_, _, j1, ⟨rd, e1, e2, j3⟩, j4, j5, j6⟩
   · have HY : Hid (¬ AllP t xs) := hide (fun h => by
       have h1 := (hit_iff xs (rxOf t) xs.length (Nat.le_refl _)).2 (by rw [List.take_length]; exact h.2)
       rw [j6 (by omega)] at h1
       cases h1)
     refine .inl ⟨j3, fun r' => ?_⟩
     have hnp : ∀ k, k ≠ X.heap.size + 1 → (W'.putObj (X.heap.size + 1) (.loop r')).heap[k]? = W'.heap[k]? := fun k hk => World.putObj_heap_other hk
     have q1 := (hnp (w.heap.size + 2) (by omega)).trans j1
     have q4 := (hnp X.heap.size (by omega)).trans j4
     have q5 := j5.trans (below_put (n := w.heap.size) W' (.loop r') (show w.heap.size ≤ X.heap.size + 1 by omega))
     clear j1 j2 j3 j4 j5 j6 hnp
     generalize W'.putObj (X.heap.size + 1) (.loop r') = W9 at *
     have c1 : W9.cell? ⟨w.heap.size + 2, 0, none⟩ = some (.bool false) := by simp [World.cell?, q1]
     have c2 : W9.frozen? ⟨w.heap.size + 2, 0, none⟩ = false := by simp [World.frozen?, q1]
     gi_wp2
     have q4' := (Below.heap_setCell W9 ⟨w.heap.size + 2, 0, none⟩ (.bool false) X.heap.size (by show X.heap.size ≠ w.heap.size + 2; omega)).trans q4
     have q1' : ((W9.setCell ⟨w.heap.size + 2, 0, none⟩ (.bool false)).putObj X.heap.size (.deferred none)).heap[w.heap.size + 2]? = some (.cells #[.bool false] 4) := by
       rw [World.putObj_heap_other (by omega)]
       simp [World.setCell, Array.getElem?_modify, q1]
     refine ⟨by simp, .inl ⟨_, _, rfl, run_takeDeferred q4', ?_⟩⟩
     exact ⟨_, res37 _ _ (w.heap.size + 2) false rfl (by simp [World.cell?, q1']), U.told_no HY.out, (q5.setCell (p := ⟨w.heap.size + 2, 0, none⟩) (by show w.heap.size ≤ w.heap.size + 2; omega) _).trans (below_put _ _ (by omega))⟩
   · have HY : Hid (AllP t xs) := hide ⟨hI.out, by have := (hit_iff xs (rxOf t) xs.length (Nat.le_refl _)).1 j6; rw [List.take_length] at this; exact this⟩
     refine .inr ⟨rd, e1, e2, j3, fun r' => ?_⟩
     have hnp : ∀ k, k ≠ X.heap.size + 1 → (W'.putObj (X.heap.size + 1) (.loop r')).heap[k]? = W'.heap[k]? := fun k hk => World.putObj_heap_other hk
     have q1 := (hnp (w.heap.size + 2) (by omega)).trans j1
     have q4 := (hnp X.heap.size (by omega)).trans j4
     have q5 := j5.trans (below_put (n := w.heap.size) W' (.loop r') (show w.heap.size ≤ X.heap.size + 1 by omega))
     clear j1 j3 j4 j5 j6 hnp
     generalize W'.putObj (X.heap.size + 1) (.loop r') = W9 at *
     gi_wp2
     have q1' : (W9.putObj X.heap.size (.deferred none)).heap[w.heap.size + 2]? = some (.cells #[.bool true] 4) := by
       rw [World.putObj_heap_other (by omega)]
       exact q1
     refine ⟨by simp, .inl ⟨_, _, rfl, run_takeDeferred q4, ?_⟩⟩
     exact ⟨_, res37 _ _ (w.heap.size + 2) true rfl (by simp [World.cell?, q1']), U.told_yes HY.out, q5.trans (below_put _ _ (by omega))⟩
theorem allM_any (t : T) (d : ND) (w : World) (htab : Tabs w) (hT : TR w (fun _ => True) t d.v) (hps : (E.pre t t).length ≤ 1000000) (hnb : ∀ p ∈ E.pre t t, E.NodeB p.1) (ao : Option Addr) (cap : Nat) (xs : List Int) (hx : RdC32 w ao xs) (hlen : xs.length ≤ 1000000) :
   Calls Tryz.prog 26 #[d.v, .slice ao xs.length cap] w fun e W' => U.Told (AllP t xs) e ∧ Below w.heap.size w W' := callsIn_wide.1 (allM_in t d w htab hT hps hnb ao cap xs hx hlen)
set_option maxRecDepth 100000 in
set_option maxHeartbeats 1000000 in
theorem nullM_any (t : T) (d : ND) (w : World) (htab : Tabs w) (hT : TR w (fun _ => True) t d.v) (hps : (E.pre t t).length ≤ 1000000) (hnb : ∀ p ∈ E.pre t t, E.NodeB p.1) :
   Calls Tryz.prog 39 #[d.v] w fun e W' => U.Told (AllP t []) e ∧ Below w.heap.size w W' := by
 have a1 := al1 w (.cells #[.int .i64 d.k, .int .i64 d.a, .slice d.sp d.sl d.sc, .string d.n, .slice d.kp d.kl d.kc] 26)
 have h1 := allM_any t d _ (htab.later a1) (TR.later (fun k hk => a1.block k hk) _ hT) hps hnb none 0 [] (fun i hi => by simp at hi) (by simp)
 unfold ND.v at h1 ⊢
 rw [List.length_nil] at h1
 go_enter Tryz.func39, Tryz.ntmps39
 go_wp2_with fail
 refine h1.mono ?_
 rintro e W1 ⟨⟨b, rfl, hb⟩, hb1⟩
 have HB := hide hb
 have b1 := nx a1 hb1
 clear h1 hb hb1
 go_wp2
 go_ret
 exact ⟨⟨b, rfl, HB.out⟩, b1⟩
end Go.Proofs.YtemanednddhfaaaGreatDoor
namespace Go.Proofs.YtemanednddhfaaaGreatDoor
open Go.RowKit Go.Shelf
open E (Ps Rx T rxOf Vp)
attribute [local go_sem] Oper.semAt_some
set_option maxRecDepth 100000 in
set_option maxHeartbeats 1000000 in
theorem within_any (ao : Option Addr) (n cap : Nat) (p : Int) (w : World) : Calls Tryz.prog 65 #[.slice ao n cap, .int .i64 p] w fun e w' => U.Told (0 ≤ p ∧ p ≤ (n : Int)) e ∧ w' = w := by
  go_enter Tryz.func65, Tryz.ntmps65
  by_cases h0 : 0 ≤ p
  · go_wp2
    go_ret
    exact ⟨⟨_, rfl, by simp [h0]⟩, rfl⟩
  · have h0' : p < 0 := by omega
    go_wp2
    go_ret
    exact ⟨U.told_no (fun h => by omega), rfl⟩
set_option maxRecDepth 100000 in
theorem cut_from8 {w : World} {ao : Option Addr} {cap : Nat} {xs : List Int} (hx : RdC32 w ao xs) (f : Nat) (hf : f ≤ xs.length) (hc : xs.length ≤ cap) : ∃ ao', (∀ wx : World, (Instr.slice 53 (.slice ao xs.length cap) (some (.int .i64 (f : Int))) none none).run Tryz.prog wx = .ok (.slice ao' (xs.drop f).length (cap - f)) wx) ∧ RdC32 w ao' (xs.drop f) := by
  refine ⟨if cap = f then ao else ao.map (·.add (f * 1)), fun wx => ?_, fun i hi => ?_⟩
  · have h := run_slice_l (P := Tryz.prog) (w := wx) 53 ao xs.length cap Tryz.underlying53 .i64 (f : Int) (by omega) (by omega)
    rw [h, elemSize53]
    simp only [Result.andThen, sliced, Int.toNat_natCast, List.length_drop]
  · rw [List.length_drop] at hi
    obtain ⟨b, off, e, h1⟩ := hx (f + i) (by omega)
    rw [if_neg (by omega), e]
    refine ⟨b, off + f, by simp [Addr.add], ?_⟩
    rw [show off + f + i = off + (f + i) by omega, h1]
    simp
set_option maxRecDepth 100000 in
theorem cut_to8 {w : World} {ao : Option Addr} {cap : Nat} {xs : List Int} (hx : RdC32 w ao xs) (f : Nat) (hf : f ≤ xs.length) (hc : xs.length ≤ cap) : ∃ ao', (∀ wx : World, (Instr.slice 53 (.slice ao xs.length cap) none (some (.int .i64 (f : Int))) none).run Tryz.prog wx = .ok (.slice ao' (xs.take f).length (cap - 0)) wx) ∧ RdC32 w ao' (xs.take f) := by
  refine ⟨if cap = 0 then ao else ao.map (·.add (0 * 1)), fun wx => ?_, fun i hi => ?_⟩
  · have h := run_slice_h (P := Tryz.prog) (w := wx) 53 ao xs.length cap Tryz.underlying53 .i64 (f : Int) (by omega) (by omega)
    rw [h, elemSize53]
    simp only [Result.andThen, sliced, Int.toNat_natCast, List.length_take, Nat.sub_zero, Nat.min_eq_left hf]
  · rw [List.length_take] at hi
    obtain ⟨b, off, e, h1⟩ := hx i (by omega)
    rw [if_neg (by omega), e]
    exact ⟨b, off, by simp [Addr.add], by rw [h1]; simp⟩
theorem Rcl.slf {w : World} {ρ : Operand → Value} {o : Oper} {x y : Operand} {ao : Option Addr} {n c : Nat} {vy v : Value} (hop : o.op = .slice 53 x (some y) none none) (hx : ρ x = .slice ao n c) (hy : ρ y = vy) (h : (Instr.slice 53 (.slice ao n c) (some vy) none none).run Tryz.prog w = .ok v w) : (execOp ρ o).run Tryz.prog w = .ok (.value v) w := by
  obtain ⟨dst, op, type, pos, after, guard⟩ := o
  simp only at hop
  subst hop
  simp [execOp, hx, hy, Instr.sliceAt, h, Result.andThen]
theorem Rcl.slt {w : World} {ρ : Operand → Value} {o : Oper} {x y : Operand} {ao : Option Addr} {n c : Nat} {vy v : Value} (hop : o.op = .slice 53 x none (some y) none) (hx : ρ x = .slice ao n c) (hy : ρ y = vy) (h : (Instr.slice 53 (.slice ao n c) none (some vy) none).run Tryz.prog w = .ok v w) : (execOp ρ o).run Tryz.prog w = .ok (.value v) w := by
  obtain ⟨dst, op, type, pos, after, guard⟩ := o
  simp only at hop
  subst hop
  simp [execOp, hx, hy, Instr.sliceAt, h, Result.andThen]
theorem Rcl.mvE {w : World} {ρ : Operand → Value} {o : Oper} {x : Operand} {v : Value} (hop : o.op = .move x) (hx : ρ x = v) : (execOp ρ o).run Tryz.prog w = .ok (.value v) w := by
  obtain ⟨dst, op, type, pos, after, guard⟩ := o
  simp only at hop
  subst hop
  simp [execOp, hx]
/-- A row of numbers that the call itself made. -/
def OwnI (w : World) (B : Nat) (v : Value) (zs : List Int) : Prop := w.ownsRow B 3 1 v zs.length (zs.map (Value.int .i64))
theorem ownI_nil (w : World) (B : Nat) : OwnI w B (.slice none 0 0) [] := World.ownsRow_nil w _ _ _
theorem OwnI.same {w w' : World} {B : Nat} {v : Value} {ss : List Int} (h : OwnI w B v ss) (hs : ∀ (g : Nat) (o : Obj), v.ownBlock = some g → w.heap[g]? = some o → w'.heap[g]? = some o) : OwnI w' B v ss := by
  obtain ⟨h1, h2 | ⟨g, cap, cur, rfl, h3, h4, h5⟩⟩ := h
  · exact ⟨h1, .inl h2⟩
  · exact ⟨h1, .inr ⟨g, cap, cur, rfl, h3, hs g _ rfl h4, h5⟩⟩
theorem OwnI.lt {w : World} {B : Nat} {v : Value} {ss : List Int} (h : OwnI w B v ss) {g : Nat} (hg : v.ownBlock = some g) : g < w.heap.size ∧ B ≤ g := by
  obtain ⟨_, ⟨rfl, _⟩ | ⟨g', cap, cur, rfl, h3, h4, _⟩⟩ := h
  · cases hg
  · cases hg
    exact ⟨(Array.getElem?_eq_some_iff.1 h4).1, h3⟩
/-- The client's box of numbers. -/
def IB (B pb : Nat) (ss : List Int) (A : World) : Prop := ∃ v, A.heap[pb]? = some (.cells #[v] 60) ∧ OwnI A B v ss
theorem IB.ow {B pb : Nat} {ss : List Int} {A : World} (h : IB B pb ss A) {k : Nat} (ho : Ow pb A k) : k < A.heap.size ∧ B ≤ k := by
  obtain ⟨v, h1, h2⟩ := h
  obtain ⟨v', t, f, h3, h4⟩ := ho
  rw [h1] at h3
  cases h3
  exact h2.lt h4
theorem IB.keep {B pb n : Nat} {ss : List Int} {A A' : World} (h : IB B pb ss A) (hk : KpO pb n A A') (hp : pb < n) : IB B pb ss A' := by
  obtain ⟨v, h1, h2⟩ := h
  refine ⟨v, (hk.below.block pb hp).trans h1, h2.same fun g o hv hg => (hk.own g (Array.getElem?_eq_some_iff.1 hg).1 ⟨v, _, _, h1, hv⟩).trans hg⟩
theorem IB.put {B pb x : Nat} {ss : List Int} {A : World} (h : IB B pb ss A) (hb : pb ≠ x) (hx : ¬ Ow pb A x) (o' : Obj) : IB B pb ss (A.putObj x o') := by
  obtain ⟨v, h1, h2⟩ := h
  refine ⟨v, (World.putObj_heap_other hb).trans h1, h2.same fun g o hv hg => (World.putObj_heap_other ?_).trans hg⟩
  rintro rfl
  exact hx ⟨v, _, _, h1, hv⟩
theorem info3N : (Tryz.prog.info? 3).map (fun i => (i.zero, i.size, i.bytes)) = some (some (.int .i64 0), 1, 8) := by kernel_rfl
/-- What is told of the first lengths. -/
def pls (zs : List Int) (x : Rx) (g : Nat → Int) (m : Nat) : List Int := ((List.range m).filter (hit zs x)).map g
theorem pls_succ (zs : List Int) (x : Rx) (g : Nat → Int) (m : Nat) : pls zs x g (m + 1) = pls zs x g m ++ if hit zs x m then [g m] else [] := by
  unfold pls
  rw [List.range_succ, List.filter_append, List.map_append]
  cases h : hit zs x m <;> simp [h]
theorem pls_le (zs : List Int) (x : Rx) (g : Nat → Int) (m : Nat) : (pls zs x g m).length ≤ m := by
  unfold pls
  rw [List.length_map]
  exact Nat.le_trans (List.length_filter_le _ _) (by simp)
/-- One number more. -/
theorem ib_app {A1 w1 : World} {B pb : Nat} {ss : List Int} {s : Int} {v v' : Value} {tmp : Obj} (hpB : pb < B) (hBA : B ≤ A1.heap.size) (h1 : A1.heap[pb]? = some (.cells #[v] 60)) (ho : OwnI A1 B v ss)
    (hown : w1.ownsRow B 3 1 v' (ss.length + 1) (ss.map (Value.int .i64) ++ [.int .i64 s])) (hg : (A1.alloc tmp).grownBy w1 v.ownBlock) (hat : v'.ownBlock = v.ownBlock ∨ v'.ownBlock = some (A1.alloc tmp).heap.size) :
    w1.heap[pb]? = some (.cells #[v] 60) ∧ IB B pb (ss ++ [s]) (w1.setCell ⟨pb, 0, none⟩ v') ∧ (∀ k, k ≠ pb → k < A1.heap.size → ¬ Ow pb A1 k → (w1.setCell ⟨pb, 0, none⟩ v').heap[k]? = A1.heap[k]?) ∧ (∀ k, k < A1.heap.size → Ow pb (w1.setCell ⟨pb, 0, none⟩ v') k → Ow pb A1 k) ∧ A1.heap.size ≤ (w1.setCell ⟨pb, 0, none⟩ v').heap.size ∧ (w1.setCell ⟨pb, 0, none⟩ v').os = A1.os ∧ (w1.setCell ⟨pb, 0, none⟩ v').tape = A1.tape ∧ (w1.setCell ⟨pb, 0, none⟩ v').output = A1.output := by
  have hk : ∀ k, k < A1.heap.size → ¬ Ow pb A1 k → w1.heap[k]? = A1.heap[k]? := fun k hk hn => (hg.block k (by simp; omega) (fun e => hn ⟨v, _, _, h1, e.symm⟩)).trans (Below.heap_alloc _ _ _ hk)
  have hpn : ¬ Ow pb A1 pb := fun h => by
    obtain ⟨v2, t, f, h3, h4⟩ := h
    rw [h1] at h3
    cases h3
    have := (ho.lt h4).2
    omega
  have hp1 := (hk pb (by omega) hpn).trans h1
  have hne : ∀ k, k ≠ pb → (w1.setCell ⟨pb, 0, none⟩ v').heap[k]? = w1.heap[k]? := fun k hk => Below.heap_setCell _ _ _ _ hk
  have hpb' : (w1.setCell ⟨pb, 0, none⟩ v').heap[pb]? = some (.cells #[v'] 60) := by simp [World.setCell, Array.getElem?_modify, hp1]
  have hs1 : A1.heap.size ≤ w1.heap.size := Nat.le_trans (by simp) hg.size
  have hsz : (w1.setCell ⟨pb, 0, none⟩ v').heap.size = w1.heap.size := by simp [World.setCell]
  have ho1 : OwnI w1 B v' (ss ++ [s]) := by
    unfold OwnI
    rw [List.length_append, List.map_append]
    exact hown
  refine ⟨hp1, ⟨v', hpb', ho1.same fun g o hv hg' => (hne g (by have := (ho1.lt hv).2; omega)).trans hg'⟩, fun k h2 h3 h4 => (hne k h2).trans (hk k h3 h4), fun k h2 ho' => ?_, by omega, hg.os, hg.tape, hg.output⟩
  obtain ⟨v2, t, f, h3, h4⟩ := ho'
  rw [hpb'] at h3
  cases h3
  rcases hat with h5 | h5
  · exact ⟨v, _, _, h1, h5 ▸ h4⟩
  · rw [h5] at h4
    simp at h4
    omega
end Go.Proofs.YtemanednddhfaaaGreatDoor
namespace Go.Proofs.YtemanednddhfaaaGreatDoor
open Go.RowKit Go.Shelf
open E (T)
attribute [local go_sem] Oper.semAt_some
theorem blM (w : World) : Below w.heap.size w w.drew := ⟨rfl, rfl, rfl, Nat.le_refl _, fun _ _ => rfl⟩
theorem Reg.neT {w : World} {ρ : Operand → Value} {o : Oper} {x y : Operand} {m : Bool} (hop : o.op = .binOp .neq 4 x y 4) (hx : ρ x = .bool m) (hy : ρ y = .bool m) : (execOp ρ o).run Tryz.prog w = .ok (.value (.bool false)) w := by
  obtain ⟨dst, op, type, pos, after, guard⟩ := o
  simp only at hop
  subst hop
  cases m
  · simp only [execOp, hx, hy]
    kernel_rfl
  · simp only [execOp, hx, hy]
    kernel_rfl
theorem Reg.eqTT {w : World} {ρ : Operand → Value} {o : Oper} {x y : Operand} {m : Bool} (hop : o.op = .binOp .eql 4 x y 4) (hx : ρ x = .bool m) (hy : ρ y = .bool m) : (execOp ρ o).run Tryz.prog w = .ok (.value (.bool true)) w := by
  obtain ⟨dst, op, type, pos, after, guard⟩ := o
  simp only at hop
  subst hop
  cases m
  · simp only [execOp, hx, hy]
    kernel_rfl
  · simp only [execOp, hx, hy]
    kernel_rfl
/-- What match tells of a text is what the places tell. -/
theorem told_all {t : T} (ha : PA.Acc t) (hc : PA.ct t ≤ 60) (xs : List Int) {e : Ending} (h : U.Told (AllP t xs) e) : e = .returned (.bool (PA.allB (PA.auto t) xs)) := by
  obtain ⟨b, rfl, hb⟩ := h
  have h2 : b = PA.allB (PA.auto t) xs := by
    rw [Bool.eq_iff_iff, hb, PA.glu ha hc]
    unfold AllP E.PlainP
    exact ⟨fun h => h.2, fun h => ⟨⟨ha.1, (E.nmL_nil t).1 (by rw [ha.2]; rfl)⟩, h⟩⟩
  rw [h2]
set_option maxRecDepth 100000 in
set_option maxHeartbeats 8000000 in
theorem pmatch_any (t : T) (hF : InT t) (d : ND) (ao : Option Addr) (cap : Nat) (xs : List Int) (hcap : xs.length ≤ cap) (w : World) (ht : Tabs w) (hd : Deb w) (hT : TR w (fun _ => True) t d.v) (hx : RdC32 w ao xs) :
    Calls Tryz.prog 7 #[d.v, .slice ao xs.length cap] w fun e w' => e = .returned (.bool true) ∧ Below w.heap.size w w' := by
  have b1 := al1 w (.cells #[.int .i64 d.k, .int .i64 d.a, .slice d.sp d.sl d.sc, .string d.n, .slice d.kp d.kl d.kc] 26)
  have n1 := heap_alloc_new w (.cells #[.int .i64 d.k, .int .i64 d.a, .slice d.sp d.sl d.sc, .string d.n, .slice d.kp d.kl d.kc] 26)
  have s1 : (w.alloc (.cells #[.int .i64 d.k, .int .i64 d.a, .slice d.sp d.sl d.sc, .string d.n, .slice d.kp d.kl d.kc] 26)).heap.size = w.heap.size + 1 := by simp
  obtain ⟨X, hX⟩ : ∃ X, w.alloc (.cells #[.int .i64 d.k, .int .i64 d.a, .slice d.sp d.sl d.sc, .string d.n, .slice d.kp d.kl d.kc] 26) = X := ⟨_, rfl⟩
  rw [hX] at b1 n1 s1
  have HLAT := hide (fun W (hb : Below w.heap.size w W) => (⟨ht.later hb, hd.later hb, TR.later (fun k hk => hb.block k hk) _ hT, hx.later hb⟩ : Tabs W ∧ Deb W ∧ TR W (fun _ => True) t d.v ∧ RdC32 W ao xs))
  have hk := known13_any X (HLAT.out X b1).1 (HLAT.out X b1).2.1
  clear ht hd hT hx
  unfold ND.v
  go_enter Tryz.func7, Tryz.ntmps7
  go_wp2_with fail
  refine hk.mono ?_
  rintro e W1 ⟨rfl, hb1⟩
  have B1 := nx b1 hb1
  have m1 := (hb1.block _ (by omega)).trans n1
  have hc := count_any t hF d W1 150 (by decide) (HLAT.out W1 B1).2.2.1
  have z1 : w.heap.size + 1 ≤ W1.heap.size := by have := hb1.size; omega
  obtain ⟨q0, q1, q2, q3, q4⟩ := cells_five m1
  have HSZ : Hid (sz t = (E.pre t t).length) := rfl
  obtain ⟨sc, hsc⟩ : ∃ sc, min (sz t) (150 + 1) = sc := ⟨_, rfl⟩
  rw [hsc] at hc
  have HSC := hide hsc
  have hle : sc ≤ 151 := by omega
  unfold ND.v at hc
  rw [show ((150 : Nat) : Int) = 150 from rfl] at hc
  clear hk hb1 n1 s1 hX hsc b1
  go_wp2_with fail
  refine hc.mono ?_
  rintro e W2 ⟨rfl, hb2⟩
  have B2 := nx B1 hb2
  have m2 := (hb2.block _ (by omega)).trans m1
  have z2 : w.heap.size + 1 ≤ W2.heap.size := Nat.le_trans z1 hb2.size
  clear hc hb2 m1 z1 B1 q0 q1 q2 q3 q4
  by_cases hbig : 150 < sc
  · go_wp2
    go_ret
    exact ⟨rfl, B2⟩
  by_cases hlong : 20 < xs.length
  · go_wp2
    go_ret
    exact ⟨rfl, B2⟩
  have hsz : (E.pre t t).length ≤ 1000000 := by have h1 := HSC.out; have h2 := HSZ.out; omega
  have hN := new_any t d W2 (HLAT.out W2 B2).1 (HLAT.out W2 B2).2.1 (HLAT.out W2 B2).2.2.1 hsz hF
  obtain ⟨q0, q1, q2, q3, q4⟩ := cells_five m2
  have HS := hide hsz
  unfold ND.v at hN
  clear hsz
  go_wp2_with fail
  refine hN.mono ?_
  intro e W3 hw
  obtain ⟨hb3, ⟨hna, rfl⟩ | ⟨hac, hct, rfl⟩ | ⟨hac, hct, A1, rfl, hA⟩⟩ := hw
  · have B3 := nx B2 hb3
    clear hN q0 q1 q2 q3 q4 hna
    go_wp2
    go_ret
    exact ⟨rfl, B3⟩
  · have B3 := nx B2 hb3
    clear hN q0 q1 q2 q3 q4 hac hct
    go_wp2
    go_ret
    exact ⟨rfl, B3⟩
  · have B3 := nx B2 hb3
    have m3 := (hb3.block _ (by omega)).trans m2
    have z3 : w.heap.size + 1 ≤ W3.heap.size := Nat.le_trans z2 hb3.size
    have hg := PA.good_auto hac hct
    have HT0 := hide (fun (ys : List Int) (e : Ending) (h : U.Told (AllP t ys) e) => told_all hac hct ys h)
    obtain ⟨⟨pl, xf, xl, xn⟩, hau⟩ : ∃ au, PA.auto t = au := ⟨_, rfl⟩
    rw [hau] at hg hA HT0
    have HAT := hide (fun W (hb : Below W3.heap.size W3 W) => AutoAt.later hA hb)
    have hlen : pl.length ≤ 60 := hg.len
    have hpl64 : (pl.length : Int) ≤ 64 := by omega
    have hcv : IntKind.u64.wrap (pl.length : Int) = (pl.length : Int) := IntWalk.u64_in _ ⟨by omega, by omega⟩
    have HG := hide hg
    have h13 := fun W hb => AutoAt.len (a := ⟨pl, xf, xl, xn⟩) (HAT.out W hb)
    have h19 := fun W hb (s : Nat) (r : Int) (hs : s < 2 ^ 64) => AutoAt.step (a := ⟨pl, xf, xl, xn⟩) (HAT.out W hb) HG.out s r hs (HLAT.out W (nx B3 hb)).2.1
    have h20 := fun W hb (s : Nat) (hs : s < 2 ^ 64) => AutoAt.accept (a := ⟨pl, xf, xl, xn⟩) (HAT.out W hb) HG.out s hs
    have h27 := fun W hb => AutoAt.all (a := ⟨pl, xf, xl, xn⟩) (HAT.out W hb) HG.out (HLAT.out W (nx B3 hb)).2.1 ao cap xs (HLAT.out W (nx B3 hb)).2.2.2 (by omega)
    have h26a := fun W (hb : Below W3.heap.size W3 W) (ac : Option Addr) (cap : Nat) (ys : List Int) (hx : RdC32 W ac ys) (hl : ys.length ≤ 1000000) => allM_any t d W (HLAT.out W (nx B3 hb)).1 (HLAT.out W (nx B3 hb)).2.2.1 HS.out hF ac cap ys hx hl
    have h26 := fun W hb => h26a W hb ao cap xs (HLAT.out W (nx B3 hb)).2.2.2 (by omega)
    have hkx : ∀ W, Below W3.heap.size W3 W → W.heap[w.heap.size]? = some (.cells #[.int .i64 d.k, .int .i64 d.a, .slice d.sp d.sl d.sc, .string d.n, .slice d.kp d.kl d.kc] 26) := fun W hb => (hb.block _ (by omega)).trans m3
    have hlt := fun s r => PA.up (PA.stp_lt ⟨pl, xf, xl, xn⟩ s r) (show pl.length ≤ 64 by omega)
    have hl2 : ∀ s r, ((PA.stp ⟨pl, xf, xl, xn⟩ s r : Nat) : Int) / 2 ^ pl.length = 0 := fun s r => by
      have h1 := PA.stp_lt ⟨pl, xf, xl, xn⟩ s r
      rw [show ((2 : Int) ^ pl.length) = ((2 ^ pl.length : Nat) : Int) by simp, ← Int.natCast_ediv, Nat.div_eq_of_lt h1]
      rfl
    have hBd := Below.refl W3.heap.size W3
    unfold ND.v at h26 h26a
    dsimp only at h13
    clear hN q0 q1 q2 q3 q4 m3 m2 hg hau hA hb3
    go_wp2
    go_loopw [7, 8] (fun p u wr => ∃ s i : Nat, p = .int .u64 (s : Int) ∧ u = .int .i64 (i : Int) ∧ i ≤ xs.length ∧ s < 2 ^ 64 ∧ Hid (s = (xs.take i).foldl (fun s r => PA.stp ⟨pl, xf, xl, xn⟩ s r) PA.bg) ∧ Below W3.heap.size W3 wr) (fun _ u _ => xs.length - (intOf u).toNat)
    case atStart => exact ⟨PA.bg, 0, rfl, rfl, Nat.zero_le _, by decide, hide rfl, hBd⟩
    case round =>
      obtain ⟨s, i, rfl, rfl, hi, hs, HSS, hB⟩ := hrel
      have hB1 : Below W3.heap.size W3 wr.drew := ⟨hB.os, hB.tape, hB.output, hB.size, hB.block⟩
      by_cases hlti : i < xs.length
      · have hxw := (HLAT.out wr (nx B3 hB)).2.2.2
        obtain ⟨b, off, rfl, hc⟩ := hxw i hlti
        obtain ⟨ac, hac, hrc⟩ := cut_to8 hxw i hi hcap
        have hacc : PA.acc ⟨pl, xf, xl, xn⟩ s = PA.allB ⟨pl, xf, xl, xn⟩ (xs.take i) := by unfold PA.allB; rw [← HSS.out]
        have c20 := h20 wr.drew hB1 s hs
        rw [hacc] at c20
        have c26 := h26a wr.drew hB1 ac (cap - 0) (xs.take i) (fun j hj => hrc j hj) (by rw [List.length_take]; omega)
        have HTOLD := hide (fun (e : Ending) (h : U.Told (AllP t (xs.take i)) e) => HT0.out (xs.take i) e h)
        have HS2 : Hid (PA.stp ⟨pl, xf, xl, xn⟩ s xs[i] = (xs.take (i + 1)).foldl (fun s r => PA.stp ⟨pl, xf, xl, xn⟩ s r) PA.bg) := hide (by rw [List.take_succ_eq_append_getElem hlti, List.foldl_append, ← HSS.out]; rfl)
        have kx : ∀ w', Below wr.heap.size wr.drew w' → w'.heap[w.heap.size]? = some (.cells #[.int .i64 d.k, .int .i64 d.a, .slice d.sp d.sl d.sc, .string d.n, .slice d.kp d.kl d.kc] 26) := fun w' hb => hkx w' (nx hB1 hb)
        have h19x := fun W hb => h19 W hb s xs[i] hs
        have hsl := hlt s xs[i]
        have hl3 := hl2 s xs[i]
        have HC := hide (fun W (hb : Below W3.heap.size W3 W) => (show W.cell? ⟨b, off + i, none⟩ = some (.int .i32 xs[i]) by
          obtain ⟨b', off', e, h⟩ := (HLAT.out W (nx B3 hb)).2.2.2 i hlti
          cases e
          exact h))
        generalize PA.allB ⟨pl, xf, xl, xn⟩ (xs.take i) = z at *
        generalize PA.stp ⟨pl, xf, xl, xn⟩ s xs[i] = s2 at *
        generalize xs[i] = r at *
        clear h20 h27 h26 h26a hlt hl2 hacc hc hxw hrc h19 hkx
        go_wp2
        refine Reg.start (B := wr.heap.size) (by kernel_rfl) ?_
        refine Reg.take (fun _ _ _ _ _ h => h) 0 _ 32 (.pointer (some ⟨A1, 0, none⟩)) rfl (by kernel_rfl) (by kernel_rfl) (by kernel_rfl) rfl (by kernel_rfl) (by kernel_rfl) (fun _ _ => Rcl.mvE rfl rfl) ?_
        refine Reg.take (fun _ _ _ _ _ h => h) 1 _ 33 (.int .u64 (s : Int)) rfl (by kernel_rfl) (by kernel_rfl) (by kernel_rfl) rfl (by kernel_rfl) (by kernel_rfl) (fun _ _ => Rcl.mvE rfl rfl) ?_
        refine Reg.take (fun _ _ _ _ _ h => h) 3 _ 35 (.agg #[.int .i64 d.k, .int .i64 d.a, .slice d.sp d.sl d.sc, .string d.n, .slice d.kp d.kl d.kc]) rfl (by kernel_rfl) (by kernel_rfl) (by kernel_rfl) rfl (by kernel_rfl) (by kernel_rfl) (fun w' hb => Reg.ldN rfl rfl (kx w' hb)) ?_
        refine Reg.take (fun _ _ _ _ _ h => h) 4 _ 36 (.slice (some ⟨b, off, none⟩) xs.length cap) rfl (by kernel_rfl) (by kernel_rfl) (by kernel_rfl) rfl (by kernel_rfl) (by kernel_rfl) (fun _ _ => Rcl.mvE rfl rfl) ?_
        refine Reg.take (fun _ _ _ _ _ h => h) 5 _ 37 (.int .i64 (i : Int)) rfl (by kernel_rfl) (by kernel_rfl) (by kernel_rfl) rfl (by kernel_rfl) (by kernel_rfl) (fun _ _ => Rcl.mvE rfl rfl) ?_
        refine Reg.take (fun _ _ _ _ _ h => h) 6 _ 38 (.slice ac (xs.take i).length (cap - 0)) rfl (by kernel_rfl) (by kernel_rfl) (by kernel_rfl) rfl (by kernel_rfl) (by kernel_rfl) (fun w' hb => Rcl.slt rfl rfl rfl (hac w')) ?_
        refine Reg.call 2 _ 34 20 _ _ #[.pointer (some ⟨A1, 0, none⟩), .int .u64 (s : Int)] rfl (by kernel_rfl) rfl (by kernel_rfl) (by kernel_rfl) rfl (by kernel_rfl) (by kernel_rfl) (c20) ?_
        rintro e w2 ⟨rfl, rfl⟩
        refine ⟨_, _, rfl, Nat.le_refl _, Below.refl _ _, ?_⟩
        refine Reg.call 7 _ 39 26 _ _ #[.agg #[.int .i64 d.k, .int .i64 d.a, .slice d.sp d.sl d.sc, .string d.n, .slice d.kp d.kl d.kc], .slice ac (xs.take i).length (cap - 0)] rfl (by kernel_rfl) rfl (by kernel_rfl) (by kernel_rfl) rfl (by kernel_rfl) (by kernel_rfl) (c26) ?_
        rintro e w3 ⟨htl, hb3⟩
        obtain rfl := HTOLD.out _ htl
        refine ⟨_, w3.heap.size, rfl, hb3.size, hb3, ?_⟩
        refine Reg.take (fun _ _ _ _ _ h => h) 8 _ 40 (.bool false) rfl (by kernel_rfl) (by kernel_rfl) (by kernel_rfl) rfl (by kernel_rfl) (by kernel_rfl) (fun _ _ => Reg.neT rfl rfl rfl) ?_
        refine Reg.done (by kernel_rfl) ?_
        simp only [Reg.ov, Act.put, List.setIfInBounds_toArray, List.set_cons_succ, List.set_cons_zero]
        have hB4 : Below W3.heap.size W3 w3 := nx hB (bdrew hb3)
        have hc := HC.out w3 hB4
        have hcall := h19x w3 hB4
        clear c20 c26 htl hb3 kx h19x hac
        go_wp2_with fail
        refine hcall.mono ?_
        rintro e w4 ⟨rfl, hb4⟩
        have hB5 := nx hB4 hb4
        have hcall2 := h13 w4 hB5
        clear hcall hb4 hc
        go_wp2_with fail
        refine hcall2.mono ?_
        rintro e w5 ⟨rfl, rfl⟩
        clear hcall2
        go_wp2
        go_roundw
        case rel => exact ⟨s2, i + 1, rfl, by go_num, by omega, hsl, HS2, hB5⟩
        case measure => simp [intOf] <;> omega
      · obtain rfl : i = xs.length := by omega
        have hacc : PA.acc ⟨pl, xf, xl, xn⟩ s = PA.allB ⟨pl, xf, xl, xn⟩ xs := by unfold PA.allB; have h1 := HSS.out; rw [List.take_length] at h1; rw [← h1]
        have c20 := h20 wr.drew hB1 s hs
        rw [hacc] at c20
        have c26 := h26 wr.drew hB1
        have HTOLD := hide (fun (e : Ending) (h : U.Told (AllP t xs) e) => HT0.out xs e h)
        have kx : ∀ w', Below wr.heap.size wr.drew w' → w'.heap[w.heap.size]? = some (.cells #[.int .i64 d.k, .int .i64 d.a, .slice d.sp d.sl d.sc, .string d.n, .slice d.kp d.kl d.kc] 26) := fun w' hb => hkx w' (nx hB1 hb)
        have kx3 : ∀ w3, Below wr.heap.size wr.drew w3 → ∀ w', Below w3.heap.size w3 w' → w'.heap[w.heap.size]? = some (.cells #[.int .i64 d.k, .int .i64 d.a, .slice d.sp d.sl d.sc, .string d.n, .slice d.kp d.kl d.kc] 26) := fun w3 h3 w' hb => hkx w' (nx (nx hB1 h3) hb)
        generalize PA.allB ⟨pl, xf, xl, xn⟩ xs = z at *
        clear h20 hlt hl2 hacc h13 h19 h26a hkx
        go_wp2
        refine Reg.start (B := wr.heap.size) (by kernel_rfl) ?_
        refine Reg.take (fun _ _ _ _ _ h => h) 0 _ 54 (.pointer (some ⟨A1, 0, none⟩)) rfl (by kernel_rfl) (by kernel_rfl) (by kernel_rfl) rfl (by kernel_rfl) (by kernel_rfl) (fun _ _ => Rcl.mvE rfl rfl) ?_
        refine Reg.take (fun _ _ _ _ _ h => h) 1 _ 55 (.int .u64 (s : Int)) rfl (by kernel_rfl) (by kernel_rfl) (by kernel_rfl) rfl (by kernel_rfl) (by kernel_rfl) (fun _ _ => Rcl.mvE rfl rfl) ?_
        refine Reg.take (fun _ _ _ _ _ h => h) 3 _ 57 (.agg #[.int .i64 d.k, .int .i64 d.a, .slice d.sp d.sl d.sc, .string d.n, .slice d.kp d.kl d.kc]) rfl (by kernel_rfl) (by kernel_rfl) (by kernel_rfl) rfl (by kernel_rfl) (by kernel_rfl) (fun w' hb => Reg.ldN rfl rfl (kx w' hb)) ?_
        refine Reg.take (fun _ _ _ _ _ h => h) 4 _ 58 (.slice ao xs.length cap) rfl (by kernel_rfl) (by kernel_rfl) (by kernel_rfl) rfl (by kernel_rfl) (by kernel_rfl) (fun _ _ => Rcl.mvE rfl rfl) ?_
        refine Reg.call 2 _ 56 20 _ _ #[.pointer (some ⟨A1, 0, none⟩), .int .u64 (s : Int)] rfl (by kernel_rfl) rfl (by kernel_rfl) (by kernel_rfl) rfl (by kernel_rfl) (by kernel_rfl) (c20) ?_
        rintro e w2 ⟨rfl, rfl⟩
        refine ⟨_, _, rfl, Nat.le_refl _, Below.refl _ _, ?_⟩
        refine Reg.call 5 _ 59 26 _ _ #[.agg #[.int .i64 d.k, .int .i64 d.a, .slice d.sp d.sl d.sc, .string d.n, .slice d.kp d.kl d.kc], .slice ao xs.length cap] rfl (by kernel_rfl) rfl (by kernel_rfl) (by kernel_rfl) rfl (by kernel_rfl) (by kernel_rfl) (c26) ?_
        rintro e w3 ⟨htl, hb3⟩
        obtain rfl := HTOLD.out _ htl
        refine ⟨_, w3.heap.size, rfl, hb3.size, hb3, ?_⟩
        refine Reg.take (fun _ _ _ _ _ h => h) 6 _ 60 (.bool true) rfl (by kernel_rfl) (by kernel_rfl) (by kernel_rfl) rfl (by kernel_rfl) (by kernel_rfl) (fun _ _ => Reg.eqTT rfl rfl rfl) ?_
        refine Reg.take (fun _ _ _ _ _ h => h) 7 _ 61 (.bool true) rfl (by kernel_rfl) (by kernel_rfl) (by kernel_rfl) rfl (by kernel_rfl) (by kernel_rfl) (fun _ _ => Rcl.mvE rfl rfl) ?_
        refine Reg.take (fun _ _ _ _ _ h => h) 8 _ 62 (.pointer (some ⟨A1, 0, none⟩)) rfl (by kernel_rfl) (by kernel_rfl) (by kernel_rfl) rfl (by kernel_rfl) (by kernel_rfl) (fun _ _ => Rcl.mvE rfl rfl) ?_
        refine Reg.take (fun _ _ _ _ _ h => h) 9 _ 63 (.slice ao xs.length cap) rfl (by kernel_rfl) (by kernel_rfl) (by kernel_rfl) rfl (by kernel_rfl) (by kernel_rfl) (fun _ _ => Rcl.mvE rfl rfl) ?_
        refine Reg.take (fun _ _ _ _ _ h => h) 11 _ 65 (.agg #[.int .i64 d.k, .int .i64 d.a, .slice d.sp d.sl d.sc, .string d.n, .slice d.kp d.kl d.kc]) rfl (by kernel_rfl) (by kernel_rfl) (by kernel_rfl) rfl (by kernel_rfl) (by kernel_rfl) (fun w' hb => Reg.ldN rfl rfl (kx3 _ hb3 w' hb)) ?_
        refine Reg.take (fun _ _ _ _ _ h => h) 12 _ 66 (.slice ao xs.length cap) rfl (by kernel_rfl) (by kernel_rfl) (by kernel_rfl) rfl (by kernel_rfl) (by kernel_rfl) (fun _ _ => Rcl.mvE rfl rfl) ?_
        refine Reg.call 10 _ 64 27 _ _ #[.pointer (some ⟨A1, 0, none⟩), .slice ao xs.length cap] rfl (by kernel_rfl) rfl (by kernel_rfl) (by kernel_rfl) rfl (by kernel_rfl) (by kernel_rfl) (h27 _ (nx hB (bdrew hb3))) ?_
        rintro e w4 ⟨rfl, hb4⟩
        refine ⟨_, w4.heap.size, rfl, hb4.size, hb4, ?_⟩
        refine Reg.call 13 _ 67 26 _ _ #[.agg #[.int .i64 d.k, .int .i64 d.a, .slice d.sp d.sl d.sc, .string d.n, .slice d.kp d.kl d.kc], .slice ao xs.length cap] rfl (by kernel_rfl) rfl (by kernel_rfl) (by kernel_rfl) rfl (by kernel_rfl) (by kernel_rfl) (h26 _ (nx (nx hB (bdrew hb3)) hb4)) ?_
        rintro e w5 ⟨htl, hb5⟩
        obtain rfl := HTOLD.out _ htl
        refine ⟨_, w5.heap.size, rfl, hb5.size, hb5, ?_⟩
        refine Reg.take (fun _ _ _ _ _ h => h) 14 _ 68 (.bool true) rfl (by kernel_rfl) (by kernel_rfl) (by kernel_rfl) rfl (by kernel_rfl) (by kernel_rfl) (fun _ _ => Reg.eqTT rfl rfl rfl) ?_
        refine Reg.take (fun _ _ _ _ _ h => h) 15 _ 69 (.bool true) rfl (by kernel_rfl) (by kernel_rfl) (by kernel_rfl) rfl (by kernel_rfl) (by kernel_rfl) (fun _ _ => by kernel_rfl) ?_
        refine Reg.take (fun _ _ _ _ _ h => h) 16 _ 4 (.bool true) rfl (by kernel_rfl) (by kernel_rfl) (by kernel_rfl) rfl (by kernel_rfl) (by kernel_rfl) (fun _ _ => by kernel_rfl) ?_
        refine Reg.done (by kernel_rfl) ?_
        simp only [Reg.ov, Act.put, List.setIfInBounds_toArray, List.set_cons_succ, List.set_cons_zero]
        have hB6 : Below w.heap.size w w5 := nx B3 (nx (nx (nx hB (bdrew hb3)) hb4) hb5)
        clear c20 c26 htl kx kx3
        go_wp2
        go_ret
        exact ⟨rfl, hB6⟩
end Go.Proofs.YtemanednddhfaaaGreatDoor
