/- How what reads lies in memory; partOf of match. -/
import Derived.Test.YteaaijhppmkfeaaGreatDoorTMat
import Derived.Test.YteaaijhppmkfeaaGreatDoorTRcl
namespace Go.Proofs.YteaaijhppmkfeaaGreatDoor
open Go.RowKit
attribute [local go_sem] Oper.semAt_some
open E (Ps Rx)
structure C6 (W : World) (b o : Nat) (k : Int) (sv kv : Value) (nu en go : Bool) : Prop where
 c0 : W.cell? ⟨b, o, none⟩ = some (.int .i64 k)
 c1 : W.cell? ⟨b, o + 1, none⟩ = some sv
 c2 : W.cell? ⟨b, o + 2, none⟩ = some kv
 c3 : W.cell? ⟨b, o + 3, none⟩ = some (.bool nu)
 c4 : W.cell? ⟨b, o + 4, none⟩ = some (.bool en)
 c5 : W.cell? ⟨b, o + 5, none⟩ = some (.bool go)
def Row (W : World) (b : Nat) : Prop := ∃ cs, W.heap[b]? = some (.cells cs 148 (0, 0))
theorem Row.frz {W : World} {b : Nat} (h : Row W b) (j : Nat) : W.frozen? ⟨b, j, none⟩ = false := by
 obtain ⟨cs, h⟩ := h
 simp [World.frozen?, h]
theorem Row.lt {W : World} {b : Nat} (h : Row W b) : b < W.heap.size := by
 obtain ⟨cs, h⟩ := h
 exact (Array.getElem?_eq_some_iff.1 h).1
theorem Row.set {W : World} {b : Nat} (h : Row W b) (p : Addr) (u : Value) : Row (W.setCell p u) b := by
 obtain ⟨cs, h⟩ := h
 by_cases hp : b = p.block
 · subst hp
   exact ⟨_, by simp [World.setCell, Array.getElem?_modify, h]; rfl⟩
 · exact ⟨cs, (Below.heap_setCell _ _ _ _ hp).trans h⟩
theorem cell_set_same {W : World} {b j : Nat} {u v : Value} (h : W.cell? ⟨b, j, none⟩ = some u) : (W.setCell ⟨b, j, none⟩ v).cell? ⟨b, j, none⟩ = some v := by
 simp only [World.cell?] at h ⊢
 cases hb : W.heap[b]? with
 | none => rw [hb] at h; simp at h
 | some o =>
   rw [hb] at h
   cases o with
   | cells cs t f =>
     have hj : j < cs.size := by
       simp only at h
       exact (Array.getElem?_eq_some_iff.1 h).1
     simp [World.setCell, Array.getElem?_modify, hb, hj]
   | _ => simp at h
theorem cell_set_other {W : World} {b j b' j' : Nat} {v : Value} (h : b ≠ b' ∨ j ≠ j') : (W.setCell ⟨b, j, none⟩ v).cell? ⟨b', j', none⟩ = W.cell? ⟨b', j', none⟩ := by
 by_cases hb : b' = b
 · subst hb
   have hj : j ≠ j' := h.resolve_left (by simp)
   simp only [World.cell?, World.setCell, Array.getElem?_modify]
   cases W.heap[b']? with
   | none => simp
   | some o =>
     cases o with
     | cells cs t f => simp [hj]
     | _ => simp
 · have := Below.heap_setCell W ⟨b, j, none⟩ v b' hb
   simp only [World.cell?, this]
def PR (w0 W : World) : Ps → Nat → Nat → Nat → Nat → Prop
 | .leaf k s nu en go, b, o, _, _ => (k = 1 ∨ k = 3) ∧ s.length ≤ 1000000 ∧ ∃ sp sc kp kc, C6 W b o k (.slice sp s.length sc) (.slice kp 0 kc) nu en go ∧ U.RdR w0 sp s
 | .one k a nu en go, b, o, lo, hi => (k = 6 ∨ k = 7 ∨ k = 8) ∧ ∃ sv g kc, C6 W b o k sv (.slice (some ⟨g, 0, none⟩) 1 kc) nu en go ∧ lo ≤ g ∧ g < hi ∧ Row W g ∧ PR w0 W a g 0 lo g
 | .two k x y nu en go, b, o, lo, hi => (k = 4 ∨ k = 5) ∧ ∃ sv g kc l1 h1 l2 h2, C6 W b o k sv (.slice (some ⟨g, 0, none⟩) 2 kc) nu en go ∧ lo ≤ g ∧ g < hi ∧ Row W g ∧ PR w0 W x g 0 l1 h1 ∧ PR w0 W y g 6 l2 h2 ∧ (lo ≤ l1 ∧ h1 ≤ hi ∧ (g < l1 ∨ h1 ≤ g)) ∧ (lo ≤ l2 ∧ h2 ≤ hi ∧ (g < l2 ∨ h2 ≤ g)) ∧ (h1 ≤ l2 ∨ h2 ≤ l1)
theorem C6.keep {W W' : World} {b o : Nat} {k : Int} {sv kv : Value} {nu en go : Bool} (h : C6 W b o k sv kv nu en go) (hc : ∀ j, j < 6 → W'.cell? ⟨b, o + j, none⟩ = W.cell? ⟨b, o + j, none⟩) : C6 W' b o k sv kv nu en go :=
 ⟨(hc 0 (by omega)).trans h.c0, (hc 1 (by omega)).trans h.c1, (hc 2 (by omega)).trans h.c2, (hc 3 (by omega)).trans h.c3, (hc 4 (by omega)).trans h.c4, (hc 5 (by omega)).trans h.c5⟩
theorem cell_blk {W W' : World} {b : Nat} (h : W'.heap[b]? = W.heap[b]?) (j : Nat) : W'.cell? ⟨b, j, none⟩ = W.cell? ⟨b, j, none⟩ := by simp only [World.cell?, h]
theorem PR.keep {w0 W W' : World} : ∀ {p : Ps} {b o lo hi : Nat}, PR w0 W p b o lo hi → (∀ j, j < 6 → W'.cell? ⟨b, o + j, none⟩ = W.cell? ⟨b, o + j, none⟩) → (∀ k, lo ≤ k → k < hi → W'.heap[k]? = W.heap[k]?) → PR w0 W' p b o lo hi
 | .leaf k s nu en go, b, o, lo, hi, h, hc, hb => by
   unfold PR at h ⊢
   obtain ⟨h1, h2, sp, sc, kp, kc, h3, h4⟩ := h
   exact ⟨h1, h2, sp, sc, kp, kc, h3.keep hc, h4⟩
 | .one k a nu en go, b, o, lo, hi, h, hc, hb => by
   unfold PR at h ⊢
   obtain ⟨h1, sv, g, kc, h3, h4, h5, h6, h7⟩ := h
   have hg := hb g h4 h5
   refine ⟨h1, sv, g, kc, h3.keep hc, h4, h5, ?_, PR.keep h7 (fun j _ => cell_blk hg _) (fun k hk1 hk2 => hb k hk1 (by omega))⟩
   obtain ⟨cs, h6⟩ := h6
   exact ⟨cs, hg.trans h6⟩
 | .two k x y nu en go, b, o, lo, hi, h, hc, hb => by
   unfold PR at h ⊢
   obtain ⟨h1, sv, g, kc, l1, h1', l2, h2', h3, h4, h5, h6, h7, h8, h9, h10, h11⟩ := h
   have hg := hb g h4 h5
   refine ⟨h1, sv, g, kc, l1, h1', l2, h2', h3.keep hc, h4, h5, ?_, PR.keep h7 (fun j _ => cell_blk hg _) (fun k hk1 hk2 => hb k (by omega) (by omega)), PR.keep h8 (fun j _ => cell_blk hg _) (fun k hk1 hk2 => hb k (by omega) (by omega)), h9, h10, h11⟩
   obtain ⟨cs, h6⟩ := h6
   exact ⟨cs, hg.trans h6⟩
structure Kr (b o lo hi : Nat) (W W' : World) : Prop where
 os : W'.os = W.os
 tape : W'.tape = W.tape
 output : W'.output = W.output
 size : W.heap.size ≤ W'.heap.size
 blk : ∀ k, k < W.heap.size → k ≠ b → (k < lo ∨ hi ≤ k) → W'.heap[k]? = W.heap[k]?
 cell : ∀ j, j ≠ o + 4 → j ≠ o + 5 → W'.cell? ⟨b, j, none⟩ = W.cell? ⟨b, j, none⟩
 row : ∀ k, Row W k → Row W' k
theorem Kr.refl (b o lo hi : Nat) (W : World) : Kr b o lo hi W W := ⟨rfl, rfl, rfl, Nat.le_refl _, fun _ _ _ _ => rfl, fun _ _ _ => rfl, fun _ h => h⟩
theorem Kr.trans {b o lo hi : Nat} {A B C : World} (h : Kr b o lo hi A B) (k : Kr b o lo hi B C) : Kr b o lo hi A C :=
 ⟨k.os.trans h.os, k.tape.trans h.tape, k.output.trans h.output, Nat.le_trans h.size k.size, fun i hi h1 h2 => (k.blk i (Nat.lt_of_lt_of_le hi h.size) h1 h2).trans (h.blk i hi h1 h2), fun j h1 h2 => (k.cell j h1 h2).trans (h.cell j h1 h2), fun i hr => k.row i (h.row i hr)⟩
theorem Kr.of {b o lo hi : Nat} {A B : World} (h : Below A.heap.size A B) (hb : b < A.heap.size) : Kr b o lo hi A B :=
 ⟨h.os, h.tape, h.output, h.size, fun i hi _ _ => h.block i hi, fun j _ _ => cell_blk (h.block b hb) j, fun i ⟨cs, hr⟩ => ⟨cs, (h.block i (Array.getElem?_eq_some_iff.1 hr).1).trans hr⟩⟩
theorem Kr.set {b o lo hi : Nat} {A B : World} (h : Kr b o lo hi A B) {j : Nat} (hj : j = o + 4 ∨ j = o + 5) (u : Value) : Kr b o lo hi A (B.setCell ⟨b, j, none⟩ u) :=
 h.trans ⟨rfl, rfl, rfl, by simp [World.setCell], fun i _ h1 _ => Below.heap_setCell _ _ _ _ h1, fun i h1 h2 => cell_set_other (.inr (by omega)), fun i hr => hr.set _ _⟩
theorem Kr.up {b o lo hi g o' l h : Nat} {A B : World} (k : Kr g o' l h A B) (hg : lo ≤ g ∧ g < hi) (hl : lo ≤ l) (hh : h ≤ hi) (hb : b < lo ∨ hi ≤ b) (hbs : b < A.heap.size) : Kr b o lo hi A B :=
 ⟨k.os, k.tape, k.output, k.size, fun i h1 _ h3 => k.blk i h1 (by omega) (by omega), fun j _ _ => cell_blk (k.blk b hbs (by omega) (by omega)) j, k.row⟩
theorem Kr.below {b o lo hi n : Nat} {w A B : World} (k : Kr b o lo hi A B) (h : Below n w A) (hb : n ≤ b) (hl : n ≤ lo) (hn : n ≤ A.heap.size) : Below n w B :=
 h.trans ⟨k.os, k.tape, k.output, k.size, fun i hi => k.blk i (by omega) (by omega) (by omega)⟩
theorem PR.other {w0 W W' : World} {p : Ps} {b o lo hi b' o' lo' hi' : Nat} (h : PR w0 W p b o lo hi) (k : Kr b' o' lo' hi' W W') (hb : b < W.heap.size) (hh : hi ≤ W.heap.size) (h1 : b < lo' ∨ hi' ≤ b) (h2 : b ≠ b' ∨ o + 5 < o' + 4 ∨ o' + 5 < o) (h3 : hi ≤ lo' ∨ hi' ≤ lo) (h4 : b' < lo ∨ hi ≤ b') : PR w0 W' p b o lo hi := by
 refine h.keep (fun j hj => ?_) (fun i hi1 hi2 => k.blk i (by omega) (by omega) (by omega))
 by_cases he : b = b'
 · subst he; exact k.cell _ (by omega) (by omega)
 · exact cell_blk (k.blk b hb he h1) _
structure Top (b o : Nat) (en go : Bool) (W V : World) : Prop where
 c4 : V.cell? ⟨b, o + 4, none⟩ = some (.bool en)
 c5 : V.cell? ⟨b, o + 5, none⟩ = some (.bool go)
 cell : ∀ j, j ≠ o + 4 → j ≠ o + 5 → V.cell? ⟨b, j, none⟩ = W.cell? ⟨b, j, none⟩
 blk : ∀ k, k ≠ b → V.heap[k]? = W.heap[k]?
 row : ∀ k, Row W k → Row V k
 os : V.os = W.os
 tape : V.tape = W.tape
 output : V.output = W.output
 size : V.heap.size = W.heap.size
theorem Top.refl {b o : Nat} {en go : Bool} {W : World} (h4 : W.cell? ⟨b, o + 4, none⟩ = some (.bool en)) (h5 : W.cell? ⟨b, o + 5, none⟩ = some (.bool go)) : Top b o en go W W :=
 ⟨h4, h5, fun _ _ _ => rfl, fun _ _ => rfl, fun _ h => h, rfl, rfl, rfl, rfl⟩
theorem Top.set4 {b o : Nat} {en go : Bool} {W V : World} (h : Top b o en go W V) (e : Bool) : Top b o e go W (V.setCell ⟨b, o + 4, none⟩ (.bool e)) :=
 ⟨cell_set_same h.c4, (cell_set_other (.inr (by omega))).trans h.c5, fun j h1 h2 => (cell_set_other (.inr (by omega))).trans (h.cell j h1 h2), fun k hk => (Below.heap_setCell _ _ _ _ hk).trans (h.blk k hk), fun k hr => (h.row k hr).set _ _, h.os, h.tape, h.output, by rw [← h.size]; simp [World.setCell]⟩
theorem Top.set5 {b o : Nat} {en go : Bool} {W V : World} (h : Top b o en go W V) (e : Bool) : Top b o en e W (V.setCell ⟨b, o + 5, none⟩ (.bool e)) :=
 ⟨(cell_set_other (.inr (by omega))).trans h.c4, cell_set_same h.c5, fun j h1 h2 => (cell_set_other (.inr (by omega))).trans (h.cell j h1 h2), fun k hk => (Below.heap_setCell _ _ _ _ hk).trans (h.blk k hk), fun k hr => (h.row k hr).set _ _, h.os, h.tape, h.output, by rw [← h.size]; simp [World.setCell]⟩
theorem Top.kr {b o lo hi : Nat} {en go : Bool} {W V : World} (h : Top b o en go W V) : Kr b o lo hi W V :=
 ⟨h.os, h.tape, h.output, Nat.le_of_eq h.size.symm, fun k _ hk _ => h.blk k hk, h.cell, h.row⟩
theorem Top.c6 {b o : Nat} {en go en0 go0 nu : Bool} {k : Int} {sv kv : Value} {W V : World} (h : Top b o en go W V) (c : C6 W b o k sv kv nu en0 go0) : C6 V b o k sv kv nu en go :=
 ⟨(h.cell o (by omega) (by omega)).trans c.c0, (h.cell (o + 1) (by omega) (by omega)).trans c.c1, (h.cell (o + 2) (by omega) (by omega)).trans c.c2, (h.cell (o + 3) (by omega) (by omega)).trans c.c3, h.c4, h.c5⟩
theorem Top.kid {b o lo hi g o' l h' : Nat} {en go : Bool} {w0 W V : World} {p : Ps} (h : Top b o en go W V) (k : PR w0 W p g o' l h') (hb : b < lo ∨ hi ≤ b) (hg : lo ≤ g ∧ g < hi) (hl : lo ≤ l) (hh : h' ≤ hi) : PR w0 V p g o' l h' :=
 k.keep (fun j _ => cell_blk (h.blk g (by omega)) _) (fun i h1 h2 => h.blk i (by omega))
theorem pr_leaf {w0 V : World} {b o lo hi : Nat} {k : Int} {s : List (Int × Int)} {nu en go : Bool} {sp kp : Option Addr} {sc kc : Nat} (hk : k = 1 ∨ k = 3) (hs : s.length ≤ 1000000) (c : C6 V b o k (.slice sp s.length sc) (.slice kp 0 kc) nu en go) (hr : U.RdR w0 sp s) : PR w0 V (.leaf k s nu en go) b o lo hi := by
 unfold PR; exact ⟨hk, hs, sp, sc, kp, kc, c, hr⟩
theorem pr_one {w0 V : World} {b o lo hi g kc : Nat} {k : Int} {a : Ps} {nu en go : Bool} {sv : Value} (hk : k = 6 ∨ k = 7 ∨ k = 8) (c : C6 V b o k sv (.slice (some ⟨g, 0, none⟩) 1 kc) nu en go) (h1 : lo ≤ g) (h2 : g < hi) (hr : Row V g) (ha : PR w0 V a g 0 lo g) : PR w0 V (.one k a nu en go) b o lo hi := by
 unfold PR; exact ⟨hk, sv, g, kc, c, h1, h2, hr, ha⟩
theorem pr_two {w0 V : World} {b o lo hi g kc l1 h1 l2 h2 : Nat} {k : Int} {x y : Ps} {nu en go : Bool} {sv : Value} (hk : k = 4 ∨ k = 5) (c : C6 V b o k sv (.slice (some ⟨g, 0, none⟩) 2 kc) nu en go) (hg1 : lo ≤ g) (hg2 : g < hi) (hr : Row V g) (hx : PR w0 V x g 0 l1 h1) (hy : PR w0 V y g 6 l2 h2) (i1 : lo ≤ l1 ∧ h1 ≤ hi ∧ (g < l1 ∨ h1 ≤ g)) (i2 : lo ≤ l2 ∧ h2 ≤ hi ∧ (g < l2 ∨ h2 ≤ g)) (i3 : h1 ≤ l2 ∨ h2 ≤ l1) : PR w0 V (.two k x y nu en go) b o lo hi := by
 unfold PR; exact ⟨hk, sv, g, kc, l1, h1, l2, h2, c, hg1, hg2, hr, hx, hy, i1, i2, i3⟩
theorem PR.tell {w0 W : World} {p : Ps} {b o lo hi : Nat} (h : PR w0 W p b o lo hi) : W.cell? ⟨b, o + 3, none⟩ = some (.bool p.nu) ∧ W.cell? ⟨b, o + 4, none⟩ = some (.bool p.en) ∧ W.cell? ⟨b, o + 5, none⟩ = some (.bool p.go) := by
 cases p <;> unfold PR at h
 · obtain ⟨_, _, _, _, _, _, c, _⟩ := h; exact ⟨c.c3, c.c4, c.c5⟩
 · obtain ⟨_, _, _, _, c, _⟩ := h; exact ⟨c.c3, c.c4, c.c5⟩
 · obtain ⟨_, _, _, _, _, _, _, _, c, _⟩ := h; exact ⟨c.c3, c.c4, c.c5⟩
theorem elemSize146 (w : World) : (sizeOf (Tryz.prog.elem 146)).run Tryz.prog w = .ok 6 w := by kernel_rfl
def AnsRp (w0 W : World) (p : Ps) (b o lo hi : Nat) (r : Int) (bg : Bool) (e : Ending) (W' : World) : Prop :=
 e = .returned (.tuple #[]) ∧ PR w0 W' (p.read r bg) b o lo hi ∧ Kr b o lo hi W W'
set_option maxRecDepth 100000 in
set_option maxHeartbeats 1000000 in
theorem read_skip (W : World) (b o : Nat) (r : Int) (hg : W.cell? ⟨b, o + 5, none⟩ = some (.bool false)) :
   Calls Tryz.prog 96 #[.pointer (some ⟨b, o, none⟩), .int .i32 r, .bool false] W fun e W' => e = .returned (.tuple #[]) ∧ W' = W := by
 go_enter Tryz.func96, Tryz.ntmps96
 go_wp2
 exact bodyPost_ret (v := .tuple #[]) (by simp [results, Tryz.results96, go_sem]) rfl ⟨rfl, rfl⟩
theorem cell_ltB {w : World} {a : Addr} {v : Value} (h : w.cell? a = some v) : a.block < w.heap.size := by
 unfold World.cell? at h
 cases hb : w.heap[a.block]? with
 | none => rw [hb] at h; simp at h
 | some o => exact (Array.getElem?_eq_some_iff.1 hb).1
set_option maxRecDepth 100000 in
set_option maxHeartbeats 1000000 in
theorem partOf_1 (sp : Option Addr) (sl sc : Nat) (W : World) :
   Calls Tryz.prog 97 #[.int .i64 1, .slice sp sl sc, .slice none 0 0] W fun e W' => e = .returned (.agg #[.int .i64 1, .slice sp sl sc, .slice none 0 0, .bool false, .bool false, .bool false]) ∧ Below W.heap.size W W' := by
 go_enter Tryz.func97, Tryz.ntmps97
 go_wp2
 exact bodyPost_ret (v := .agg #[.int .i64 1, .slice sp sl sc, .slice none 0 0, .bool false, .bool false, .bool false]) (by simp [results, Tryz.results97, go_sem]) rfl ⟨rfl, nx (al1 W _) (al1 _ _)⟩
set_option maxRecDepth 100000 in
set_option maxHeartbeats 1000000 in
theorem partOf_3 (sp : Option Addr) (sl sc : Nat) (W : World) :
   Calls Tryz.prog 97 #[.int .i64 3, .slice sp sl sc, .slice none 0 0] W fun e W' => e = .returned (.agg #[.int .i64 3, .slice sp sl sc, .slice none 0 0, .bool true, .bool false, .bool false]) ∧ Below W.heap.size W W' := by
 go_enter Tryz.func97, Tryz.ntmps97
 go_wp2
 exact bodyPost_ret (v := .agg #[.int .i64 3, .slice sp sl sc, .slice none 0 0, .bool true, .bool false, .bool false]) (by simp [results, Tryz.results97, go_sem]) rfl ⟨rfl, nx (al1 W _) (al1 _ _)⟩
set_option maxRecDepth 100000 in
set_option maxHeartbeats 1000000 in
theorem partOf_6 (sp : Option Addr) (sl sc : Nat) (g kc : Nat) (n : Bool) (W : World) (hn : W.cell? ⟨g, 3, none⟩ = some (.bool n)) :
   Calls Tryz.prog 97 #[.int .i64 6, .slice sp sl sc, .slice (some ⟨g, 0, none⟩) 1 kc] W fun e W' => e = .returned (.agg #[.int .i64 6, .slice sp sl sc, .slice (some ⟨g, 0, none⟩) 1 kc, .bool true, .bool false, .bool false]) ∧ Below W.heap.size W W' := by
 have hgl : g < W.heap.size := cell_ltB hn
 have es := elemSize146
 go_enter Tryz.func97, Tryz.ntmps97
 go_wp2
 exact bodyPost_ret (v := .agg #[.int .i64 6, .slice sp sl sc, .slice (some ⟨g, 0, none⟩) 1 kc, .bool true, .bool false, .bool false]) (by simp [results, Tryz.results97, go_sem]) rfl ⟨rfl, nx (al1 W _) (al1 _ _)⟩
set_option maxRecDepth 100000 in
set_option maxHeartbeats 1000000 in
theorem partOf_7 (sp : Option Addr) (sl sc : Nat) (g kc : Nat) (n : Bool) (W : World) (hn : W.cell? ⟨g, 3, none⟩ = some (.bool n)) :
   Calls Tryz.prog 97 #[.int .i64 7, .slice sp sl sc, .slice (some ⟨g, 0, none⟩) 1 kc] W fun e W' => e = .returned (.agg #[.int .i64 7, .slice sp sl sc, .slice (some ⟨g, 0, none⟩) 1 kc, .bool n, .bool false, .bool false]) ∧ Below W.heap.size W W' := by
 have hgl : g < W.heap.size := cell_ltB hn
 have es := elemSize146
 go_enter Tryz.func97, Tryz.ntmps97
 go_wp2
 exact bodyPost_ret (v := .agg #[.int .i64 7, .slice sp sl sc, .slice (some ⟨g, 0, none⟩) 1 kc, .bool n, .bool false, .bool false]) (by simp [results, Tryz.results97, go_sem]) rfl ⟨rfl, nx (al1 W _) (al1 _ _)⟩
set_option maxRecDepth 100000 in
set_option maxHeartbeats 1000000 in
theorem partOf_8 (sp : Option Addr) (sl sc : Nat) (g kc : Nat) (n : Bool) (W : World) (hn : W.cell? ⟨g, 3, none⟩ = some (.bool n)) :
   Calls Tryz.prog 97 #[.int .i64 8, .slice sp sl sc, .slice (some ⟨g, 0, none⟩) 1 kc] W fun e W' => e = .returned (.agg #[.int .i64 8, .slice sp sl sc, .slice (some ⟨g, 0, none⟩) 1 kc, .bool true, .bool false, .bool false]) ∧ Below W.heap.size W W' := by
 have hgl : g < W.heap.size := cell_ltB hn
 have es := elemSize146
 go_enter Tryz.func97, Tryz.ntmps97
 go_wp2
 exact bodyPost_ret (v := .agg #[.int .i64 8, .slice sp sl sc, .slice (some ⟨g, 0, none⟩) 1 kc, .bool true, .bool false, .bool false]) (by simp [results, Tryz.results97, go_sem]) rfl ⟨rfl, nx (al1 W _) (al1 _ _)⟩
set_option maxRecDepth 100000 in
set_option maxHeartbeats 1000000 in
theorem partOf_4 (sp : Option Addr) (sl sc : Nat) (g kc : Nat) (n m : Bool) (W : World) (hn : W.cell? ⟨g, 3, none⟩ = some (.bool n)) (hm : W.cell? ⟨g, 9, none⟩ = some (.bool m)) :
   Calls Tryz.prog 97 #[.int .i64 4, .slice sp sl sc, .slice (some ⟨g, 0, none⟩) 2 kc] W fun e W' => e = .returned (.agg #[.int .i64 4, .slice sp sl sc, .slice (some ⟨g, 0, none⟩) 2 kc, .bool (n && m), .bool false, .bool false]) ∧ Below W.heap.size W W' := by
 have hgl : g < W.heap.size := cell_ltB hn
 have es := elemSize146
 go_enter Tryz.func97, Tryz.ntmps97
 cases n with
 | true =>
   go_wp2
   exact bodyPost_ret (v := .agg #[.int .i64 4, .slice sp sl sc, .slice (some ⟨g, 0, none⟩) 2 kc, .bool m, .bool false, .bool false]) (by simp [results, Tryz.results97, go_sem]) rfl ⟨rfl, nx (al1 W _) (al1 _ _)⟩
 | false =>
   go_wp2
   exact bodyPost_ret (v := .agg #[.int .i64 4, .slice sp sl sc, .slice (some ⟨g, 0, none⟩) 2 kc, .bool false, .bool false, .bool false]) (by simp [results, Tryz.results97, go_sem]) rfl ⟨rfl, nx (al1 W _) (al1 _ _)⟩
set_option maxRecDepth 100000 in
set_option maxHeartbeats 1000000 in
theorem partOf_5 (sp : Option Addr) (sl sc : Nat) (g kc : Nat) (n m : Bool) (W : World) (hn : W.cell? ⟨g, 3, none⟩ = some (.bool n)) (hm : W.cell? ⟨g, 9, none⟩ = some (.bool m)) :
   Calls Tryz.prog 97 #[.int .i64 5, .slice sp sl sc, .slice (some ⟨g, 0, none⟩) 2 kc] W fun e W' => e = .returned (.agg #[.int .i64 5, .slice sp sl sc, .slice (some ⟨g, 0, none⟩) 2 kc, .bool (n || m), .bool false, .bool false]) ∧ Below W.heap.size W W' := by
 have hgl : g < W.heap.size := cell_ltB hn
 have es := elemSize146
 go_enter Tryz.func97, Tryz.ntmps97
 cases n with
 | true =>
   go_wp2
   exact bodyPost_ret (v := .agg #[.int .i64 5, .slice sp sl sc, .slice (some ⟨g, 0, none⟩) 2 kc, .bool true, .bool false, .bool false]) (by simp [results, Tryz.results97, go_sem]) rfl ⟨rfl, nx (al1 W _) (al1 _ _)⟩
 | false =>
   go_wp2
   exact bodyPost_ret (v := .agg #[.int .i64 5, .slice sp sl sc, .slice (some ⟨g, 0, none⟩) 2 kc, .bool m, .bool false, .bool false]) (by simp [results, Tryz.results97, go_sem]) rfl ⟨rfl, nx (al1 W _) (al1 _ _)⟩
end Go.Proofs.YteaaijhppmkfeaaGreatDoor
