/- Joined: UHas Mat Mte Mtm. -/
import Derived.Test.YtemanednddhfaaaGreatDoorMJG
namespace Go.Proofs.YtemanednddhfaaaGreatDoor.U
open Go.RowKit Go.Shelf
attribute [local go_sem] Oper.semAt_some
def S.hB (l : List S.R) (p : Int) : Bool := S.hasB (S.goods l) p
theorem S.hB_iff (l : List S.R) (p : Int) : S.hB l p = true ↔ S.hs l p := S.hasB_iff _ _
def S.miss (pre : List S.R) (r : Int) : Prop := ∀ s ∈ pre, ¬ (s.1 ≤ r ∧ r ≤ s.2)
theorem S.miss_snoc {pre : List S.R} {r x1 x2 : Int} (h : S.miss pre r) (hx : ¬ (x1 ≤ r ∧ r ≤ x2)) : S.miss (pre ++ [(x1, x2)]) r := by
 intro s hs
 rcases List.mem_append.1 hs with h' | h'
 · exact h s h'
 · obtain rfl : s = (x1, x2) := by simpa using h'
   exact hx
theorem mine_none (n0 n1 : Nat) : Mine n0 n1 (fun _ => True) (fun _ _ => False) where
 lt _ _ _ h := h.elim
 grow _ _ _ _ := ⟨trivial, fun _ h => h⟩
 turn _ _ _ _ _ _ _ _ := ⟨trivial, fun _ h => h⟩
set_option maxRecDepth 100000 in
set_option maxHeartbeats 4000000 in
theorem has_any (ao : Option Addr) (ca : Nat) (xs : List S.R) (r : Int) (hl : xs.length ≤ 1000000) (w : World) (h : RdR w ao xs) :
   Calls Tryz.prog 53 #[.slice ao xs.length ca, .int .i32 r] w fun e W' => e = .returned (.bool (S.hB xs r)) ∧ Below w.heap.size w W' := by
 refine (callsIn_wide (n := 5)).1 ?_
 refine callsIn_of_wp_marks Tryz.func53 rfl trivial ?_ rfl
 simp only [Tryz.ntmps53, List.size_toArray, List.length_cons, List.length_nil, Nat.reduceAdd, Nat.reduceSub, Array.replicate_succ, Array.replicate_zero, List.push_toArray, List.append_toArray, List.nil_append, List.cons_append]
 have hb2 := al2 w (.cells #[.int .i32 r] 21) (.cells #[.bool false] 4)
 have hgo := fun T => goodSpans_gives (w.heap.size + 2) 0 1 [(ao, ca, xs)] (by simp) (fun p hp => by simp at hp; subst hp; exact hl) _ (by
   have := rdl_one (ca := ca) T (h.later hb2)
   simp only [World.size_alloc] at this
   exact this)
 rw [show flat [(ao, ca, xs)] = xs by simp [flat]] at hgo
 gi_wp2_with (refine ⟨trivial, ?_⟩; gi_at_call 89; refine (callsIn_wide.2 (hgo _)).mono ?_; rintro e wi ⟨v, rfl, hit, hbi⟩; obtain ⟨gf, lb, rfl, heg, hgives⟩ := hit)
 have b3 : Boxed wi w.heap.size 21 (.int .i32 r) := (hbi.block w.heap.size (by simp; omega)).trans (((Boxed.new w 21 (.int .i32 r)).alloc (.cells #[.bool false] 4)).alloc (.cells #[.slice ao xs.length ca] 23))
 have b4 : Boxed wi (w.heap.size + 1) 4 (.bool false) := by
   have := (Boxed.new (w.alloc (.cells #[.int .i32 r] 21)) 4 (.bool false)).alloc (.cells #[.slice ao xs.length ca] 23)
   rw [World.size_alloc] at this
   exact (hbi.block (w.heap.size + 1) (by simp)).trans this
 have hB0 : Below w.heap.size w wi := nx (nx hb2 (al1 _ _)) hbi
 have hsz : w.heap.size + 3 ≤ wi.heap.size := by have := hbi.size; simp at this; omega
 clear hgo hbi hb2
 have HG : Hid (S.hB xs r = S.hasB (S.goods xs) r) := rfl
 refine wpIn_rangeFunc_ownH rfl (by omega) (gf := gf) (lb := lb) rfl trivial heg (hgives 4 (by omega) wi (Below.refl _ _) wi.heap.size _ _ (mine_none _ _) trivial) kpM_t (kpM_b (mine_none wi.heap.size wi.heap.size)) (Below.refl _ _) (fun _ => rfl)
   (fun pre W => ((S.miss pre r ∧ Boxed W w.heap.size 21 (.int .i32 r)) ∧ Boxed W (w.heap.size + 1) 4 (.bool false)) ∧ Below w.heap.size w W)
   (fun c pre W => ((c = .ret ∧ (∃ s ∈ pre, s.1 ≤ r ∧ r ≤ s.2)) ∧ Boxed W (w.heap.size + 1) 4 (.bool true)) ∧ Below w.heap.size w W)
   (OwnFrom.and (OwnFrom.and (OwnFrom.and (ownFrom_pure _ _) (Own.from (boxed_own _ _ _) _)) (Own.from (boxed_own _ _ _) _)) (ownFrom_below (Nat.le_refl _) (by omega)))
   (fun c => OwnFrom.and (OwnFrom.and (ownFrom_pure _ _) (Own.from (boxed_own _ _ _) _)) (ownFrom_below (Nat.le_refl _) (by omega)))
   ⟨⟨⟨fun s h => (by cases h), b3⟩, b4⟩, hB0⟩
   (fun x a' W => ∃ Bx, w.heap.size + 1 < Bx ∧ W.heap[Bx]? = some (.cells #[.int .i32 x.1, .int .i32 x.2] 142 (0, 0)) ∧ a' = { tmps := #[.slice ao xs.length ca, .int .i32 r, undef, .pointer (some ⟨w.heap.size, 0, none⟩), .pointer (some ⟨w.heap.size + 1, 0, none⟩), .pointer (some ⟨Bx, 0, none⟩), .slice ao xs.length ca, .slice (some ⟨w.heap.size + 1 + 1, 0, none⟩) 1 1, .func (.func gf) #[] lb, .agg #[.int .i32 x.1, .int .i32 x.2], undef, undef, undef, undef, undef, undef, undef, undef, undef, undef], defers := [] })
   (fun x a' _ X Y row hs hg hr => by
     obtain ⟨Bx, h1, h2, h3⟩ := hs
     exact ⟨Bx, h1, (grownBy_keeps_cells hg (fun r e => (hr r e).2) h2 rfl).trans h2, h3⟩)
   ?assign ?body ?done ?stop
 case assign =>
   rintro l pre x W K ⟨⟨⟨hp, b31⟩, b41⟩, hB1⟩ hK
   simp only [encP]
   gi_wp2
   exact hK _ _ ((KeepsOthers.alloc _ _).from _) (kpM_below (mine_none 0 0) (al1 W _)) ⟨⟨⟨hp, b31.alloc _⟩, b41.alloc _⟩, hB1.alloc hB1.size _⟩ ⟨W.heap.size, b41.lt, World.alloc_heap_new W _, rfl⟩
 case body =>
   rintro l pre x a' W hl ⟨r', hr⟩ ⟨⟨⟨hp, b31⟩, b41⟩, hB1⟩ ⟨Bx, hBx, bX, rfl⟩ hlt
   obtain ⟨x1, x2⟩ := x
   simp only at bX
   have c3 := b31.cell
   have c4 := b41.cell
   have f4 := b41.frozen
   obtain ⟨cX0, cX1⟩ := cells_two bX
   by_cases h1 : x1 ≤ r
   · by_cases h2 : r ≤ x2
     · gi_wp2
       exact ⟨(KeepsOthers.setCell _ _ _).from _, ⟨⟨rfl, (x1, x2), by simp, h1, h2⟩, b41.set _⟩, hB1.setCell (p := ⟨w.heap.size + 1, 0, none⟩) (by simp) _⟩
     · have h2' : x2 < r := by omega
       gi_wp2
       exact ⟨KeepsFrom.refl _ _, kpM_below (mine_none 0 0) (Below.refl _ _), ⟨⟨S.miss_snoc hp (by omega), b31⟩, b41⟩, hB1⟩
   · have h1' : r < x1 := by omega
     gi_wp2
     exact ⟨KeepsFrom.refl _ _, kpM_below (mine_none 0 0) (Below.refl _ _), ⟨⟨S.miss_snoc hp (by omega), b31⟩, b41⟩, hB1⟩
 case done =>
   rintro D ys W hD rfl ⟨⟨⟨hp, b31⟩, b41⟩, hB1⟩ hK
   have c4 := b41.cell
   have f4 := b41.frozen
   gi_wp2
   have hK' := (KeepsOthers.setCell W ⟨w.heap.size + 1, 0, none⟩ (.bool false)).same D _ hK rfl
   refine ⟨by simp, .inl ⟨_, _, rfl, run_takeDeferred hK', ?_⟩⟩
   have hc5 := cell_kept (b41.set (.bool false)).cell (grownBy_putObj' _ D (.deferred none)) (fun r e => by cases e; exact ⟨_, hK', rfl⟩)
   have hg : S.hB xs r = false := by
     cases hh : S.hB xs r with
     | false => rfl
     | true =>
       obtain ⟨s, hs, h1⟩ := (S.hB_iff xs r).1 hh
       exact absurd h1 (hp s hs)
   refine ⟨.bool false, ?_, by rw [hg], (hB1.setCell (p := ⟨w.heap.size + 1, 0, none⟩) (by simp) _).trans (belowK_b (w := w) (Nat.le_refl _) _ D _ _ (by omega) hK' rfl rfl)⟩
   simp [results, Tryz.f53, go_sem, hc5]
 case stop =>
   rintro D c pre W hD hpre ⟨⟨⟨rfl, s, hs, hsg⟩, b41⟩, hB1⟩ hK
   gi_wp2
   refine ⟨by simp, .inl ⟨_, _, rfl, run_takeDeferred hK, ?_⟩⟩
   have hc5 := cell_kept b41.cell (grownBy_putObj' _ D (.deferred none)) (fun r e => by cases e; exact ⟨_, hK, rfl⟩)
   have hg : S.hB xs r = true := (S.hB_iff xs r).2 ⟨s, hpre.subset hs, hsg⟩
   refine ⟨.bool true, ?_, by rw [hg], hB1.trans (belowK_b (w := w) (Nat.le_refl _) W D _ _ (by omega) hK rfl rfl)⟩
   simp [results, Tryz.f53, go_sem, hc5]
end Go.Proofs.YtemanednddhfaaaGreatDoor.U
namespace Go.Proofs.YtemanednddhfaaaGreatDoor
namespace E
inductive Star (L : List Int → Prop) : List Int → Prop
 | nil : Star L []
 | app {x y : List Int} : L x → Star L y → Star L (x ++ y)
theorem Star.snoc {L : List Int → Prop} {x y : List Int} (h : Star L x) (hy : L y) : Star L (x ++ y) := by
 induction h with
 | nil => simpa using Star.app hy Star.nil
 | app hx _ ih => rw [List.append_assoc]; exact Star.app hx ih
theorem Star.one {L : List Int → Prop} {x : List Int} (h : L x) : Star L x := by simpa using Star.app h Star.nil
theorem Star.last {L : List Int → Prop} {u : List Int} (h : Star L u) : u = [] ∨ ∃ x y, u = x ++ y ∧ Star L x ∧ L y ∧ y ≠ [] := by
 induction h with
 | nil => exact .inl rfl
 | @app x y hx hy ih =>
   rcases ih with rfl | ⟨a, b, rfl, h1, h2, h3⟩
   · by_cases hn : x = []
     · exact .inl (by simp [hn])
     · exact .inr ⟨[], x, by simp, .nil, hx, hn⟩
   · exact .inr ⟨x ++ a, b, by simp, Star.app hx h1, h2, h3⟩
theorem Star.first {L : List Int → Prop} {u : List Int} (h : Star L u) : u = [] ∨ ∃ x y, u = x ++ y ∧ L x ∧ Star L y ∧ x ≠ [] := by
 induction h with
 | nil => exact .inl rfl
 | @app x y hx hy ih =>
   by_cases hn : x = []
   · subst hn; simpa using ih
   · exact .inr ⟨x, y, rfl, hx, hy, hn⟩
inductive Rx where
 | leaf (k : Int) (s : List (Int × Int))
 | one (k : Int) (a : Rx)
 | two (k : Int) (a b : Rx)
def inS (s : List (Int × Int)) (r : Int) : Bool := U.S.hB s r
def Rx.L : Rx → List Int → Prop
 | .leaf k s, u => if k = 1 then ∃ r, u = [r] ∧ inS s r = true else u = []
 | .one k a, u => if k = 8 then u = [] ∨ a.L u else if k = 7 then ∃ x y, u = x ++ y ∧ a.L x ∧ Star a.L y else Star a.L u
 | .two k a b, u => if k = 4 then ∃ x y, u = x ++ y ∧ a.L x ∧ b.L y else a.L u ∨ b.L u
def Rx.nul : Rx → Bool
 | .leaf k _ => !(k == 1)
 | .one k a => if k = 7 then a.nul else true
 | .two k a b => if k = 4 then a.nul && b.nul else a.nul || b.nul
theorem Rx.nul_iff (x : Rx) : x.nul = true ↔ x.L [] := by
 induction x with
 | leaf k s =>
   unfold Rx.nul Rx.L
   by_cases h : k = 1 <;> simp [h]
 | one k a ih =>
   unfold Rx.nul Rx.L
   by_cases h : k = 7
   · subst h
     rw [if_pos rfl, if_neg (by decide), if_pos rfl, ih]
     constructor
     · intro h; exact ⟨[], [], rfl, h, .nil⟩
     · rintro ⟨x, y, e, h1, _⟩
       have := List.append_eq_nil_iff.1 e.symm
       rw [this.1] at h1
       exact h1
   · simp only [if_neg h]
     refine ⟨fun _ => ?_, fun _ => trivial⟩
     by_cases h8 : k = 8
     · rw [if_pos h8]; exact .inl trivial
     · rw [if_neg h8]; exact .nil
 | two k a b iha ihb =>
   unfold Rx.nul Rx.L
   by_cases h : k = 4
   · subst h
     simp only [if_pos, Bool.and_eq_true, iha, ihb]
     constructor
     · rintro ⟨h1, h2⟩; exact ⟨[], [], rfl, h1, h2⟩
     · rintro ⟨x, y, e, h1, h2⟩
       have := List.append_eq_nil_iff.1 e.symm
       rw [this.1] at h1
       rw [this.2] at h2
       exact ⟨h1, h2⟩
   · simp only [if_neg h, Bool.or_eq_true, iha, ihb]
inductive Ps where
 | leaf (k : Int) (s : List (Int × Int)) (nu en go : Bool)
 | one (k : Int) (a : Ps) (nu en go : Bool)
 | two (k : Int) (a b : Ps) (nu en go : Bool)
def Ps.nu : Ps → Bool | .leaf _ _ n _ _ => n | .one _ _ n _ _ => n | .two _ _ _ n _ _ => n
def Ps.en : Ps → Bool | .leaf _ _ _ e _ => e | .one _ _ _ e _ => e | .two _ _ _ _ e _ => e
def Ps.go : Ps → Bool | .leaf _ _ _ _ g => g | .one _ _ _ _ g => g | .two _ _ _ _ _ g => g
def Rx.ps : Rx → Ps
 | .leaf k s => .leaf k s (!(k == 1)) false false
 | .one k a => .one k a.ps (Rx.one k a).nul false false
 | .two k a b => .two k a.ps b.ps (Rx.two k a b).nul false false
def Ps.rd : Ps → Int → Bool → Ps
 | .leaf k s n e _, r, b => let e' := if k = 1 then b && inS s r else e; .leaf k s n e' e'
 | .one k a n _ _, r, b => let a' := a.rd r (if k = 8 then b else b || a.en); .one k a' n a'.en (a'.en || a'.go)
 | .two k x y n _ _, r, b =>
   let x' := x.rd r b
   let y' := y.rd r (if k = 4 then b && x.nu || x.en else b)
   let e' := if k = 4 then y'.en || x'.en && y'.nu else x'.en || y'.en
   .two k x' y' n e' (e' || x'.go || y'.go)
def Ps.read : Ps → Int → Bool → Ps
 | .leaf k s n e g, r, b => if !b && !g then .leaf k s n e g else let e' := if k = 1 then b && inS s r else e; .leaf k s n e' e'
 | .one k a n e g, r, b => if !b && !g then .one k a n e g else let a' := a.read r (if k = 8 then b else b || a.en); .one k a' n a'.en (a'.en || a'.go)
 | .two k x y n e g, r, b => if !b && !g then .two k x y n e g else
   let x' := x.read r b
   let y' := y.read r (if k = 4 then b && x.nu || x.en else b)
   let e' := if k = 4 then y'.en || x'.en && y'.nu else x'.en || y'.en
   .two k x' y' n e' (e' || x'.go || y'.go)
def Ps.Ok : Ps → Prop
 | .leaf _ _ _ e g => g = e
 | .one _ a _ e g => a.Ok ∧ g = (e || a.go) ∧ (e = a.en)
 | .two k x y _ e g => x.Ok ∧ y.Ok ∧ g = (e || x.go || y.go) ∧ e = (if k = 4 then y.en || x.en && y.nu else x.en || y.en)
theorem Ps.Ok.en_go {p : Ps} (h : p.Ok) : p.go = false → p.en = false := by
 cases p <;> simp only [Ps.Ok] at h <;> simp only [Ps.go, Ps.en]
 · intro hg; rw [← h]; exact hg
 · intro hg; rw [h.2.1] at hg; simp at hg; exact hg.1
 · intro hg; rw [h.2.2.1] at hg; simp at hg; exact hg.1.1
theorem Ps.rd_ok (p : Ps) (r : Int) (b : Bool) : (p.rd r b).Ok := by
 induction p generalizing b with
 | leaf => simp [Ps.rd, Ps.Ok]
 | one k a n e g ih => simp only [Ps.rd, Ps.Ok]; exact ⟨ih _, trivial, trivial⟩
 | two k x y n e g ihx ihy => simp only [Ps.rd, Ps.Ok]; exact ⟨ihx _, ihy _, trivial, trivial⟩
theorem Ps.rd_still {p : Ps} (h : p.Ok) (hg : p.go = false) (r : Int) : p.rd r false = p := by
 induction p with
 | leaf k s n e g =>
   simp only [Ps.Ok] at h
   simp only [Ps.go] at hg
   subst h
   subst hg
   simp [Ps.rd]
 | one k a n e g ih =>
   simp only [Ps.Ok] at h
   simp only [Ps.go] at hg
   obtain ⟨h1, h2, h3⟩ := h
   rw [hg] at h2
   have h4 : e = false ∧ a.go = false := by simpa using h2.symm
   obtain ⟨rfl, h5⟩ := h4
   have h6 := ih h1 h5
   have h7 := h1.en_go h5
   simp only [Ps.rd, h7, Bool.or_false, ite_self, h6, h5, hg]
 | two k x y n e g ihx ihy =>
   simp only [Ps.Ok] at h
   simp only [Ps.go] at hg
   obtain ⟨h1, h2, h3, h4⟩ := h
   rw [hg] at h3
   have h5 : (e = false ∧ x.go = false) ∧ y.go = false := by simpa using h3.symm
   obtain ⟨⟨rfl, h6⟩, h7⟩ := h5
   have e1 := h1.en_go h6
   have e2 := h2.en_go h7
   simp only [Ps.rd, e1, Bool.false_and, Bool.or_false, ite_self, ihx h1 h6, ihy h2 h7, e2, h6, h7, hg]
theorem Ps.read_eq {p : Ps} (h : p.Ok) (r : Int) (b : Bool) : p.read r b = p.rd r b := by
 induction p generalizing b with
 | leaf k s n e g =>
   by_cases hc : (!b && !g) = true
   · have hb : b = false ∧ g = false := by simpa using hc
     rw [Ps.read, if_pos hc, hb.1, Ps.rd_still h hb.2]
   · rw [Ps.read, if_neg hc, Ps.rd]
 | one k a n e g ih =>
   by_cases hc : (!b && !g) = true
   · have hb : b = false ∧ g = false := by simpa using hc
     rw [Ps.read, if_pos hc, hb.1, Ps.rd_still h hb.2]
   · rw [Ps.read, if_neg hc, Ps.rd]
     simp only [Ps.Ok] at h
     simp only [ih h.1]
 | two k x y n e g ihx ihy =>
   by_cases hc : (!b && !g) = true
   · have hb : b = false ∧ g = false := by simpa using hc
     rw [Ps.read, if_pos hc, hb.1, Ps.rd_still h hb.2]
   · rw [Ps.read, if_neg hc, Ps.rd]
     simp only [Ps.Ok] at h
     simp only [ihx h.1, ihy h.2.1]
theorem Rx.ps_ok (x : Rx) : x.ps.Ok ∧ x.ps.go = false ∧ x.ps.en = false ∧ x.ps.nu = x.nul := by
 induction x with
 | leaf k s => simp [Rx.ps, Ps.Ok, Ps.go, Ps.en, Ps.nu, Rx.nul]
 | one k a ih => exact ⟨⟨ih.1, by rw [ih.2.1]; rfl, by rw [ih.2.2.1]⟩, rfl, rfl, rfl⟩
 | two k a b iha ihb => exact ⟨⟨iha.1, ihb.1, by rw [iha.2.1, ihb.2.1]; rfl, by rw [iha.2.2.1, ihb.2.2.1]; simp⟩, rfl, rfl, rfl⟩
section
variable (tx : List Int)
def seg (i j : Nat) : List Int := (tx.take j).drop i
theorem seg_self (i : Nat) : seg tx i i = [] := by simp [seg]
theorem seg_ge {i j : Nat} (h : j ≤ i) : seg tx i j = [] := by
 unfold seg; exact List.drop_eq_nil_of_le (by rw [List.length_take]; omega)
theorem seg_len {i j : Nat} (hj : j ≤ tx.length) : (seg tx i j).length = j - i := by
 unfold seg; rw [List.length_drop, List.length_take]; omega
theorem seg_app {i j k : Nat} (h1 : i ≤ j) (h2 : j ≤ k) : seg tx i k = seg tx i j ++ seg tx j k := by
 unfold seg
 rw [← List.take_append_drop (j - i) ((tx.take k).drop i), List.drop_drop, List.take_drop, List.take_take, show i + (j - i) = j by omega, Nat.min_eq_left h2]
theorem seg_one {n : Nat} (h : n < tx.length) : seg tx n (n + 1) = [tx[n]] := by
 unfold seg
 rw [List.take_succ_eq_append_getElem h, List.drop_append_of_le_length (by rw [List.length_take]; omega), List.drop_eq_nil_of_le (by rw [List.length_take]; omega)]
 rfl
theorem seg_ne {i j : Nat} (h : i < j) (hj : j ≤ tx.length) : seg tx i j ≠ [] := fun e => by
 have := seg_len tx (i := i) hj
 rw [e] at this
 simp at this
 omega
theorem seg_cut {i k : Nat} {x y : List Int} (hik : i ≤ k) (hk : k ≤ tx.length) (h : seg tx i k = x ++ y) : ∃ j, i ≤ j ∧ j ≤ k ∧ x = seg tx i j ∧ y = seg tx j k := by
 have hl := seg_len tx (i := i) hk
 rw [h, List.length_append] at hl
 refine ⟨i + x.length, by omega, by omega, ?_⟩
 rw [seg_app tx (show i ≤ i + x.length by omega) (show i + x.length ≤ k by omega)] at h
 have := List.append_inj h (by rw [seg_len tx (by omega)]; omega)
 exact ⟨this.1.symm, this.2.symm⟩
def En (x : Rx) (n : Nat) (S : Nat → Prop) : Prop := ∃ i, i < n ∧ S i ∧ x.L (seg tx i n)
def S2 (a : Rx) (S : Nat → Prop) (j : Nat) : Prop := (S j ∧ a.nul = true) ∨ En tx a j S
def S6 (a : Rx) (S : Nat → Prop) (j : Nat) : Prop := ∃ i, i ≤ j ∧ S i ∧ Star a.L (seg tx i j)
def Inv : Rx → Ps → Nat → (Nat → Prop) → Prop
 | .leaf k s, .leaf k' s' nu en _, n, S => k = k' ∧ s = s' ∧ nu = (Rx.leaf k s).nul ∧ (en = true ↔ En tx (.leaf k s) n S)
 | .one k a, .one k' p nu en _, n, S => k = k' ∧ nu = (Rx.one k a).nul ∧ (en = true ↔ En tx (.one k a) n S) ∧ Inv a p n (if k = 8 then S else S6 tx a S)
 | .two k a b, .two k' p q nu en _, n, S => k = k' ∧ nu = (Rx.two k a b).nul ∧ (en = true ↔ En tx (.two k a b) n S) ∧ Inv a p n S ∧ Inv b q n (if k = 4 then S2 tx a S else S)
 | _, _, _, _ => False
theorem Inv.en {x : Rx} {p : Ps} {n : Nat} {S : Nat → Prop} (h : Inv tx x p n S) : p.en = true ↔ En tx x n S := by
 cases x <;> cases p <;> simp only [Inv] at h <;> first | exact h.2.2.2 | exact h.2.2.1 | exact h.2.2.1
theorem Inv.nu {x : Rx} {p : Ps} {n : Nat} {S : Nat → Prop} (h : Inv tx x p n S) : p.nu = x.nul := by
 cases x <;> cases p <;> simp only [Inv] at h <;> first | exact h.2.2.1 | exact h.2.1 | exact h.2.1
theorem en_zero (x : Rx) (S : Nat → Prop) : ¬ En tx x 0 S := fun ⟨i, h, _⟩ => by omega
theorem Rx.inv0 (x : Rx) (S : Nat → Prop) : Inv tx x x.ps 0 S := by
 induction x generalizing S with
 | leaf k s => exact ⟨rfl, rfl, rfl, by simp [en_zero]⟩
 | one k a ih => exact ⟨rfl, rfl, by simp [en_zero], ih _⟩
 | two k a b iha ihb => exact ⟨rfl, rfl, by simp [en_zero], iha _, ihb _⟩
theorem en_star {a : Rx} {n : Nat} {S : Nat → Prop} (h : En tx a n (S6 tx a S)) : ∃ i, i < n ∧ S i ∧ Star a.L (seg tx i n) := by
 obtain ⟨j, hj, ⟨i, hi, hS, h1⟩, h2⟩ := h
 exact ⟨i, by omega, hS, by rw [seg_app tx hi (Nat.le_of_lt hj)]; exact h1.snoc h2⟩
theorem star_en {a : Rx} {i n : Nat} {S : Nat → Prop} (hn : n ≤ tx.length) (hi : i < n) (hS : S i) (h : Star a.L (seg tx i n)) : En tx a n (S6 tx a S) := by
 rcases h.last with h | ⟨x, y, e, h1, h2, h3⟩
 · exact absurd h (seg_ne tx hi hn)
 · obtain ⟨j, hj1, hj2, rfl, rfl⟩ := seg_cut tx (Nat.le_of_lt hi) hn e
   have : j < n := Nat.lt_of_not_le fun hh => h3 (seg_ge tx hh)
   exact ⟨j, this, ⟨i, hj1, hS, h1⟩, h2⟩
theorem plus_star {a : Rx} {u : List Int} (hu : u ≠ []) : (∃ x y, u = x ++ y ∧ a.L x ∧ Star a.L y) ↔ Star a.L u := by
 constructor
 · rintro ⟨x, y, rfl, h1, h2⟩; exact Star.app h1 h2
 · intro h
   rcases h.first with rfl | ⟨x, y, e, h1, h2, _⟩
   · exact absurd rfl hu
   · exact ⟨x, y, e, h1, h2⟩
theorem Inv.step {x : Rx} {p : Ps} {n : Nat} {S : Nat → Prop} (h : Inv tx x p n S) (hn : n < tx.length) (b : Bool) (hb : b = true ↔ S n) : Inv tx x (p.rd tx[n] b) (n + 1) S := by
 induction x generalizing p S b with
 | leaf k s =>
   cases p <;> simp only [Inv] at h
   obtain ⟨rfl, rfl, rfl, h4⟩ := h
   simp only [Ps.rd, Inv]
   refine ⟨trivial, trivial, trivial, ?_⟩
   rename_i en go
   unfold En Rx.L
   by_cases hk : k = 1
   · simp only [if_pos hk, Bool.and_eq_true, hb]
     constructor
     · rintro ⟨h1, h2⟩
       exact ⟨n, by omega, h1, tx[n], seg_one tx hn, h2⟩
     · rintro ⟨i, hi, h1, r, e, h2⟩
       have hl := seg_len tx (i := i) (show n + 1 ≤ tx.length from hn)
       rw [e] at hl
       simp at hl
       obtain rfl : i = n := by omega
       rw [seg_one tx hn] at e
       cases e
       exact ⟨h1, h2⟩
   · simp only [if_neg hk]
     rw [h4]
     unfold En Rx.L
     simp only [if_neg hk]
     constructor
     · rintro ⟨i, hi, _, e⟩; exact absurd e (seg_ne tx hi (by omega))
     · rintro ⟨i, hi, _, e⟩; exact absurd e (seg_ne tx hi hn)
 | one k a ih =>
   cases p <;> simp only [Inv] at h
   obtain ⟨rfl, rfl, h3, h4⟩ := h
   rename_i q en go
   simp only [Ps.rd, Inv]
   by_cases h8 : k = 8
   · simp only [if_pos h8] at h4 ⊢
     have h5 := ih h4 b hb
     refine ⟨trivial, trivial, ?_, h5⟩
     rw [h5.en]
     unfold En
     constructor
     · rintro ⟨i, hi, h1, h2⟩; exact ⟨i, hi, h1, by unfold Rx.L; rw [if_pos h8]; exact .inr h2⟩
     · rintro ⟨i, hi, h1, h2⟩
       unfold Rx.L at h2
       rw [if_pos h8] at h2
       rcases h2 with h2 | h2
       · exact absurd h2 (seg_ne tx hi hn)
       · exact ⟨i, hi, h1, h2⟩
   · simp only [if_neg h8] at h4 ⊢
     have hb' : (b || q.en) = true ↔ S6 tx a S n := by
       rw [Bool.or_eq_true, hb, h4.en]
       constructor
       · rintro (h | h)
         · exact ⟨n, Nat.le_refl _, h, by rw [seg_self]; exact .nil⟩
         · obtain ⟨i, h1, h2, h3⟩ := en_star tx h
           exact ⟨i, Nat.le_of_lt h1, h2, h3⟩
       · rintro ⟨i, h1, h2, h3⟩
         by_cases he : i = n
         · exact .inl (he ▸ h2)
         · exact .inr (star_en tx (Nat.le_of_lt hn) (by omega) h2 h3)
     have h5 := ih h4 _ hb'
     refine ⟨trivial, trivial, ?_, h5⟩
     rw [h5.en]
     have key : En tx a (n + 1) (S6 tx a S) ↔ ∃ i, i < n + 1 ∧ S i ∧ Star a.L (seg tx i (n + 1)) :=
       ⟨fun h => en_star tx h, fun ⟨i, h1, h2, h3⟩ => star_en tx hn h1 h2 h3⟩
     rw [key]
     unfold En
     by_cases h7 : k = 7
     · constructor
       · rintro ⟨i, hi, h1, h2⟩; exact ⟨i, hi, h1, by unfold Rx.L; rw [if_neg h8, if_pos h7]; exact (plus_star (seg_ne tx hi hn)).2 h2⟩
       · rintro ⟨i, hi, h1, h2⟩; unfold Rx.L at h2; rw [if_neg h8, if_pos h7] at h2; exact ⟨i, hi, h1, (plus_star (seg_ne tx hi hn)).1 h2⟩
     · constructor
       · rintro ⟨i, hi, h1, h2⟩; exact ⟨i, hi, h1, by unfold Rx.L; rw [if_neg h8, if_neg h7]; exact h2⟩
       · rintro ⟨i, hi, h1, h2⟩; unfold Rx.L at h2; rw [if_neg h8, if_neg h7] at h2; exact ⟨i, hi, h1, h2⟩
 | two k a b' iha ihb =>
   cases p <;> simp only [Inv] at h
   obtain ⟨rfl, rfl, h3, h4, h5⟩ := h
   rename_i q1 q2 en go
   simp only [Ps.rd, Inv]
   have g4 := iha h4 b hb
   by_cases hk : k = 4
   · simp only [if_pos hk] at h5 ⊢
     have hf : (b && q1.nu || q1.en) = true ↔ S2 tx a S n := by
       rw [Bool.or_eq_true, Bool.and_eq_true, hb, h4.en, h4.nu]; rfl
     have g5 := ihb h5 _ hf
     refine ⟨trivial, trivial, ?_, g4, g5⟩
     rw [Bool.or_eq_true, Bool.and_eq_true, g5.en, g4.en, g5.nu]
     constructor
     · rintro (⟨j, hj, h1 | ⟨i, hi, h1, h1'⟩, h2⟩ | ⟨⟨i, hi, h1, h1'⟩, h2⟩)
       · exact ⟨j, hj, h1.1, by unfold Rx.L; rw [if_pos hk]; exact ⟨[], _, rfl, (Rx.nul_iff a).1 h1.2, h2⟩⟩
       · exact ⟨i, by omega, h1, by unfold Rx.L; rw [if_pos hk]; exact ⟨_, _, seg_app tx (Nat.le_of_lt hi) (Nat.le_of_lt hj), h1', h2⟩⟩
       · exact ⟨i, hi, h1, by unfold Rx.L; rw [if_pos hk]; exact ⟨_, [], by simp, h1', (Rx.nul_iff b').1 h2⟩⟩
     · rintro ⟨i, hi, h1, h2⟩
       unfold Rx.L at h2
       rw [if_pos hk] at h2
       obtain ⟨x, y, e, hx, hy⟩ := h2
       obtain ⟨j, hj1, hj2, rfl, rfl⟩ := seg_cut tx (Nat.le_of_lt hi) hn e
       by_cases hj : j = n + 1
       · subst hj
         rw [seg_self] at hy
         exact .inr ⟨⟨i, hi, h1, hx⟩, (Rx.nul_iff b').2 hy⟩
       · refine .inl ⟨j, by omega, ?_, hy⟩
         by_cases hij : i = j
         · subst hij
           rw [seg_self] at hx
           exact .inl ⟨h1, (Rx.nul_iff a).2 hx⟩
         · exact .inr ⟨i, by omega, h1, hx⟩
   · simp only [if_neg hk] at h5 ⊢
     have g5 := ihb h5 b hb
     refine ⟨trivial, trivial, ?_, g4, g5⟩
     rw [Bool.or_eq_true, g5.en, g4.en]
     constructor
     · rintro (⟨i, hi, h1, h2⟩ | ⟨i, hi, h1, h2⟩)
       · exact ⟨i, hi, h1, by unfold Rx.L; rw [if_neg hk]; exact .inl h2⟩
       · exact ⟨i, hi, h1, by unfold Rx.L; rw [if_neg hk]; exact .inr h2⟩
     · rintro ⟨i, hi, h1, h2⟩
       unfold Rx.L at h2
       rw [if_neg hk] at h2
       rcases h2 with h2 | h2
       · exact .inl ⟨i, hi, h1, h2⟩
       · exact .inr ⟨i, hi, h1, h2⟩
def run (p : Ps) : Nat → Ps
 | 0 => p
 | n + 1 => (run p n).rd (tx.getD n 0) (decide (n = 0))
theorem run_inv (x : Rx) (n : Nat) (hn : n ≤ tx.length) : Inv tx x (run tx x.ps n) n (fun j => j = 0) := by
 induction n with
 | zero => exact Rx.inv0 tx x _
 | succ n ih =>
   have h := (ih (by omega)).step tx hn (decide (n = 0)) (by simp)
   rw [run, List.getD_eq_getElem?_getD, List.getElem?_eq_getElem hn]
   exact h
theorem run_en (x : Rx) (n : Nat) (hn : n ≤ tx.length) (h0 : 0 < n) : (run tx x.ps n).en = true ↔ x.L (tx.take n) := by
 rw [(run_inv tx x n hn).en]
 constructor
 · rintro ⟨i, _, rfl, h⟩; simpa [seg] using h
 · intro h; exact ⟨0, h0, rfl, by simpa [seg] using h⟩
theorem run_ok (x : Rx) (n : Nat) : (run tx x.ps n).Ok := by
 cases n with
 | zero => exact (Rx.ps_ok x).1
 | succ n => exact Ps.rd_ok _ _ _
theorem run_dead (x : Rx) (n m : Nat) (h0 : 0 < n) (hm : n ≤ m) (hg : (run tx x.ps n).go = false) : run tx x.ps m = run tx x.ps n := by
 induction m with
 | zero => omega
 | succ m ih =>
   by_cases he : n = m + 1
   · rw [he]
   · rw [run, ih (by omega), show decide (m = 0) = false by simp; omega]
     exact Ps.rd_still (run_ok tx x n) hg _
end
end E
theorem inS_eq (s : List (Int × Int)) (r : Int) : E.inS s r = U.S.hB s r := rfl
end Go.Proofs.YtemanednddhfaaaGreatDoor
namespace Go.Proofs.YtemanednddhfaaaGreatDoor
namespace E
def btw (xs : List Int) (i j : Nat) : List Int := (xs.drop i).take (j - i)
theorem btw_len {xs : List Int} {i j : Nat} (h1 : i ≤ j) (h2 : j ≤ xs.length) : (btw xs i j).length = j - i := by unfold btw; rw [List.length_take, List.length_drop]; omega
theorem btw_app {xs : List Int} {i k j : Nat} (h1 : i ≤ k) (h2 : k ≤ j) : btw xs i k ++ btw xs k j = btw xs i j := by
 unfold btw
 rw [show xs.drop k = (xs.drop i).drop (k - i) by rw [List.drop_drop]; congr 1; omega, show j - i = (k - i) + (j - k) by omega, List.take_add]
theorem btw_cut {xs u v : List Int} {i j : Nat} (h1 : i ≤ j) (h2 : j ≤ xs.length) (h : btw xs i j = u ++ v) : ∃ k, i ≤ k ∧ k ≤ j ∧ btw xs i k = u ∧ btw xs k j = v ∧ k = i + u.length := by
 have hl := btw_len (xs := xs) h1 h2
 rw [h, List.length_append] at hl
 refine ⟨i + u.length, by omega, by omega, ?_, ?_, rfl⟩
 · have e : btw xs i (i + u.length) = (btw xs i j).take u.length := by
     unfold btw
     rw [List.take_take]
     congr 1
     omega
   rw [e, h, List.take_left]
 · have e : btw xs (i + u.length) j = (btw xs i j).drop u.length := by
     unfold btw
     rw [List.drop_take, List.drop_drop]
     congr 1
     omega
   rw [e, h, List.drop_left]
theorem btw_self (xs : List Int) (i : Nat) : btw xs i i = [] := by unfold btw; rw [Nat.sub_self, List.take_zero]
def EndS (L : List Int → Prop) (xs : List Int) (S : Nat → Prop) (j : Nat) : Prop := ∃ i, S i ∧ i ≤ j ∧ j ≤ xs.length ∧ L (btw xs i j)
theorem endS_cat (L M : List Int → Prop) (xs : List Int) (S : Nat → Prop) (j : Nat) : EndS (fun u => ∃ x y, u = x ++ y ∧ L x ∧ M y) xs S j ↔ EndS M xs (EndS L xs S) j := by
 constructor
 · rintro ⟨i, hS, h1, h2, x, y, e, hx, hy⟩
   obtain ⟨k, k1, k2, e1, e2, _⟩ := btw_cut h1 h2 e
   exact ⟨k, ⟨i, hS, k1, by omega, by rw [e1]; exact hx⟩, k2, h2, by rw [e2]; exact hy⟩
 · rintro ⟨k, ⟨i, hS, k1, _, hx⟩, k2, h2, hy⟩
   exact ⟨i, hS, by omega, h2, _, _, (btw_app k1 k2).symm, hx, hy⟩
theorem endS_or (L M : List Int → Prop) (xs : List Int) (S : Nat → Prop) (j : Nat) : EndS (fun u => L u ∨ M u) xs S j ↔ EndS L xs S j ∨ EndS M xs S j := by
 constructor
 · rintro ⟨i, hS, h1, h2, h | h⟩
   · exact .inl ⟨i, hS, h1, h2, h⟩
   · exact .inr ⟨i, hS, h1, h2, h⟩
 · rintro (⟨i, hS, h1, h2, h⟩ | ⟨i, hS, h1, h2, h⟩)
   · exact ⟨i, hS, h1, h2, .inl h⟩
   · exact ⟨i, hS, h1, h2, .inr h⟩
theorem endS_nil (xs : List Int) (S : Nat → Prop) (j : Nat) : EndS (fun u => u = []) xs S j ↔ S j ∧ j ≤ xs.length := by
 constructor
 · rintro ⟨i, hS, h1, h2, h⟩
   have := congrArg List.length h
   rw [btw_len h1 h2, List.length_nil] at this
   obtain rfl : i = j := by omega
   exact ⟨hS, h2⟩
 · rintro ⟨h1, h2⟩
   exact ⟨j, h1, Nat.le_refl _, h2, btw_self _ _⟩
theorem endS_set (s : List (Int × Int)) (xs : List Int) (S : Nat → Prop) (j : Nat) : EndS (fun u => ∃ r, u = [r] ∧ inS s r = true) xs S j ↔ ∃ i, ∃ (h : i < xs.length), S i ∧ inS s xs[i] = true ∧ j = i + 1 := by
 constructor
 · rintro ⟨i, hS, h1, h2, r, e, hr⟩
   have hl := congrArg List.length e
   rw [btw_len h1 h2] at hl
   simp at hl
   have hi : i < xs.length := by omega
   have e2 : btw xs i j = [xs[i]] := by
     unfold btw
     rw [hl, List.drop_eq_getElem_cons hi]
     rfl
   rw [e2] at e
   cases e
   exact ⟨i, hi, hS, hr, by omega⟩
 · rintro ⟨i, hi, hS, hr, rfl⟩
   refine ⟨i, hS, by omega, by omega, xs[i], ?_, hr⟩
   unfold btw
   rw [show i + 1 - i = 1 by omega, List.drop_eq_getElem_cons hi]
   rfl
def rnds (L : List Int → Prop) (xs : List Int) : Nat → (Nat → Prop) → (Nat → Prop)
 | 0, A => A
 | n + 1, A => fun j => rnds L xs n A j ∨ EndS L xs (rnds L xs n A) j
theorem rnds_mono (L : List Int → Prop) (xs : List Int) (A : Nat → Prop) (n m : Nat) (h : n ≤ m) (j : Nat) (hj : rnds L xs n A j) : rnds L xs m A j := by
 induction m with
 | zero => obtain rfl : n = 0 := by omega
           exact hj
 | succ m ih =>
   by_cases e : n = m + 1
   · subst e; exact hj
   · exact .inl (ih (by omega))
theorem rnds_in (L : List Int → Prop) (xs : List Int) (S : Nat → Prop) (A : Nat → Prop) (hA : ∀ j, A j → EndS (Star L) xs S j) : ∀ n j, rnds L xs n A j → EndS (Star L) xs S j
 | 0, j, h => hA j h
 | n + 1, j, .inl h => rnds_in L xs S A hA n j h
 | n + 1, j, .inr ⟨k, hk, h1, h2, hl⟩ => by
   obtain ⟨i, hS, g1, _, g3⟩ := rnds_in L xs S A hA n k hk
   exact ⟨i, hS, by omega, h2, by rw [← btw_app g1 h1]; exact g3.snoc hl⟩
theorem rnds_all (L : List Int → Prop) (xs : List Int) (A : Nat → Prop) : ∀ (m k i j : Nat), rnds L xs k A i → i ≤ j → j ≤ xs.length → j - i ≤ m → Star L (btw xs i j) → rnds L xs (k + m) A j
 | 0, k, i, j, h, h1, _, h3, _ => by
   obtain rfl : i = j := by omega
   exact h
 | m + 1, k, i, j, h, h1, h2, h3, hs => by
   rcases hs.first with e | ⟨x, y, e, hx, hy, hn⟩
   · have := congrArg List.length e
     rw [btw_len h1 h2, List.length_nil] at this
     obtain rfl : i = j := by omega
     exact rnds_mono L xs A k _ (by omega) _ h
   · obtain ⟨c, c1, c2, e1, e2, e3⟩ := btw_cut h1 h2 e
     have hp : 0 < x.length := List.length_pos_iff.2 hn
     have h4 : rnds L xs (k + 1) A c := .inr ⟨i, h, c1, by omega, by rw [e1]; exact hx⟩
     have := rnds_all L xs A m (k + 1) c j h4 c2 h2 (by omega) (by rw [e2]; exact hy)
     rwa [show k + 1 + m = k + (m + 1) by omega] at this
theorem endS_star (L : List Int → Prop) (xs : List Int) (S : Nat → Prop) (hS : ∀ i, S i → i ≤ xs.length) (n : Nat) (hn : xs.length ≤ n) (A : Nat → Prop) (hA : ∀ j, A j ↔ EndS L xs S j ∨ S j) (j : Nat) : EndS (Star L) xs S j ↔ rnds L xs n A j := by
 constructor
 · rintro ⟨i, h, h1, h2, h3⟩
   exact rnds_mono L xs A (0 + (j - i)) n (by omega) j (rnds_all L xs A (j - i) 0 i j ((hA i).2 (.inr h)) h1 h2 (Nat.le_refl _) h3)
 · refine rnds_in L xs S A (fun j hj => ?_) n j
   rcases (hA j).1 hj with ⟨i, h, h1, h2, h3⟩ | h
   · exact ⟨i, h, h1, h2, Star.one h3⟩
   · exact ⟨j, h, Nat.le_refl _, hS j h, by rw [btw_self]; exact .nil⟩
theorem endS_plus (L : List Int → Prop) (xs : List Int) (S : Nat → Prop) (n : Nat) (hn : xs.length ≤ n) (A : Nat → Prop) (hA : ∀ j, A j ↔ EndS L xs S j) (j : Nat) : EndS (fun u => ∃ x y, u = x ++ y ∧ L x ∧ Star L y) xs S j ↔ rnds L xs n A j := by
 rw [endS_cat]
 constructor
 · rintro ⟨i, h, h1, h2, h3⟩
   exact rnds_mono L xs A (0 + (j - i)) n (by omega) j (rnds_all L xs A (j - i) 0 i j ((hA i).2 h) h1 h2 (Nat.le_refl _) h3)
 · refine rnds_in L xs (EndS L xs S) A (fun j hj => ?_) n j
   have h := (hA j).1 hj
   obtain ⟨i, g, h1, h2, h3⟩ := h
   exact ⟨j, (hA j).1 hj, Nat.le_refl _, h2, by rw [btw_self]; exact .nil⟩
end E
end Go.Proofs.YtemanednddhfaaaGreatDoor
namespace Go.Proofs.YtemanednddhfaaaGreatDoor
namespace E
def bit (m i : Nat) : Prop := m.testBit i = true
theorem bit_or (a b i : Nat) : bit (a ||| b) i ↔ bit a i ∨ bit b i := by unfold bit; rw [Nat.testBit_or, Bool.or_eq_true]
theorem bit_two (a i : Nat) : bit (2 ^ a) i ↔ i = a := by unfold bit; rw [Nat.testBit_two_pow]; simp [eq_comm]
theorem bit_lt {s n : Nat} (h : s < 2 ^ n) {i : Nat} (hi : bit s i) : i < n := Nat.lt_of_not_le fun hn => by
 have := Nat.testBit_lt_two_pow (Nat.lt_of_lt_of_le h (Nat.pow_le_pow_right (by decide) hn))
 unfold bit at hi
 rw [this] at hi
 cases hi
def setM (s : List (Int × Int)) (xs : List Int) (m : Nat) : Nat → Nat
 | 0 => 0
 | k + 1 => setM s xs m k ||| (if m.testBit k && (xs[k]?.map (inS s)).getD false then 2 ^ (k + 1) else 0)
theorem setM_bit (s : List (Int × Int)) (xs : List Int) (m j : Nat) : ∀ k, k ≤ xs.length → (bit (setM s xs m k) j ↔ ∃ i, ∃ (h : i < xs.length), i < k ∧ bit m i ∧ inS s xs[i] = true ∧ j = i + 1)
 | 0, _ => by unfold setM bit; simp
 | k + 1, hk => by
   have hk' : k < xs.length := hk
   rw [setM, bit_or, setM_bit s xs m j k (by omega), List.getElem?_eq_getElem hk', Option.map_some, Option.getD_some]
   constructor
   · rintro (⟨i, h, h1, h2, h3, h4⟩ | h)
     · exact ⟨i, h, by omega, h2, h3, h4⟩
     · split at h
       · rename_i hc
         rw [Bool.and_eq_true] at hc
         exact ⟨k, hk', by omega, hc.1, hc.2, (bit_two _ _).1 h⟩
       · unfold bit at h; simp at h
   · rintro ⟨i, h, h1, h2, h3, rfl⟩
     by_cases e : i = k
     · subst e
       right
       rw [if_pos (by rw [h3]; unfold bit at h2; rw [h2]; rfl)]
       exact (bit_two _ _).2 rfl
     · exact .inl ⟨i, h, by omega, h2, h3, rfl⟩
def iter (f : Nat → Nat) : Nat → Nat → Nat
 | 0, a => a
 | n + 1, a => iter f n a ||| f (iter f n a)
def eM (xs : List Int) : Rx → Nat → Nat
 | .leaf k s, m => if k = 1 then setM s xs m xs.length else m
 | .one k a, m => if k = 8 then m ||| eM xs a m else if k = 6 then iter (eM xs a) (xs.length + 1) (eM xs a m ||| m) else iter (eM xs a) (xs.length + 1) (eM xs a m)
 | .two k a b, m => if k = 4 then eM xs b (eM xs a m) else eM xs a m ||| eM xs b m
def Kd : Rx → Prop
 | .leaf k _ => k = 1 ∨ k = 3
 | .one k a => (k = 6 ∨ k = 7 ∨ k = 8) ∧ Kd a
 | .two k a b => (k = 4 ∨ k = 5) ∧ Kd a ∧ Kd b
theorem bits_fun {m : Nat} {P : Nat → Prop} (h : ∀ j, bit m j ↔ P j) : bit m = P := funext fun j => propext (h j)
theorem iter_lt {f : Nat → Nat} {b : Nat} (hf : ∀ m, m < 2 ^ b → f m < 2 ^ b) : ∀ n a, a < 2 ^ b → iter f n a < 2 ^ b
 | 0, _, h => h
 | n + 1, a, h => Nat.or_lt_two_pow (iter_lt hf n a h) (hf _ (iter_lt hf n a h))
theorem iter_bit {f : Nat → Nat} {b : Nat} {L : List Int → Prop} {xs : List Int} (hf : ∀ m, m < 2 ^ b → f m < 2 ^ b) (hL : ∀ m, m < 2 ^ b → ∀ j, bit (f m) j ↔ EndS L xs (bit m) j) : ∀ n a, a < 2 ^ b → ∀ j, bit (iter f n a) j ↔ rnds L xs n (bit a) j
 | 0, a, h, j => Iff.rfl
 | n + 1, a, h, j => by
   rw [iter, bit_or, hL _ (iter_lt hf n a h), bits_fun (iter_bit hf hL n a h), rnds]
theorem eM_ok (xs : List Int) : ∀ (x : Rx), Kd x → ∀ m, m < 2 ^ (xs.length + 1) → eM xs x m < 2 ^ (xs.length + 1) ∧ ∀ j, bit (eM xs x m) j ↔ EndS x.L xs (bit m) j
 | .leaf k s, hk, m, hm => by
   unfold eM
   by_cases h1 : k = 1
   · rw [if_pos h1]
     have hb : ∀ j, bit (setM s xs m xs.length) j ↔ EndS (Rx.leaf k s).L xs (bit m) j := fun j => by
       rw [setM_bit s xs m j _ (Nat.le_refl _)]
       have : (Rx.leaf k s).L = fun u => ∃ r, u = [r] ∧ inS s r = true := by funext u; simp [Rx.L, h1]
       rw [this, endS_set]
       exact ⟨fun ⟨i, h, _, h2, h3, h4⟩ => ⟨i, h, h2, h3, h4⟩, fun ⟨i, h, h2, h3, h4⟩ => ⟨i, h, h, h2, h3, h4⟩⟩
     refine ⟨Nat.lt_pow_two_of_testBit _ fun i hi => ?_, hb⟩
     cases hc : (setM s xs m xs.length).testBit i with
     | false => rfl
     | true =>
       obtain ⟨_, _, _, h, _⟩ := (hb i).1 hc
       omega
   · rw [if_neg h1]
     refine ⟨hm, fun j => ?_⟩
     have : (Rx.leaf k s).L = fun u => u = [] := by funext u; simp [Rx.L, h1]
     rw [this, endS_nil]
     exact ⟨fun h => ⟨h, by have := bit_lt hm h; omega⟩, fun h => h.1⟩
 | .one k a, hk, m, hm => by
   have ih := eM_ok xs a hk.2
   have hS : ∀ i, bit m i → i ≤ xs.length := fun i hi => by have := bit_lt hm hi; omega
   unfold eM
   rcases hk.1 with rfl | rfl | rfl
   · rw [if_neg (by decide), if_pos rfl]
     have ha : eM xs a m ||| m < 2 ^ (xs.length + 1) := Nat.or_lt_two_pow (ih m hm).1 hm
     refine ⟨iter_lt (fun m hm => (ih m hm).1) _ _ ha, fun j => ?_⟩
     rw [iter_bit (fun m hm => (ih m hm).1) (fun m hm => (ih m hm).2) _ _ ha]
     have : (Rx.one 6 a).L = Star a.L := by funext u; simp [Rx.L]
     rw [this]
     exact (endS_star a.L xs (bit m) hS (xs.length + 1) (by omega) _ (fun j => by rw [bit_or, (ih m hm).2]) j).symm
   · rw [if_neg (by decide), if_neg (by decide)]
     have ha := (ih m hm).1
     refine ⟨iter_lt (fun m hm => (ih m hm).1) _ _ ha, fun j => ?_⟩
     rw [iter_bit (fun m hm => (ih m hm).1) (fun m hm => (ih m hm).2) _ _ ha]
     have : (Rx.one 7 a).L = fun u => ∃ x y, u = x ++ y ∧ a.L x ∧ Star a.L y := by funext u; simp [Rx.L]
     rw [this]
     exact (endS_plus a.L xs (bit m) (xs.length + 1) (by omega) _ (fun j => (ih m hm).2 j) j).symm
   · rw [if_pos rfl]
     refine ⟨Nat.or_lt_two_pow hm (ih m hm).1, fun j => ?_⟩
     have : (Rx.one 8 a).L = fun u => u = [] ∨ a.L u := by funext u; simp [Rx.L]
     rw [this, endS_or, endS_nil, bit_or, (ih m hm).2]
     exact or_congr ⟨fun h => ⟨h, hS j h⟩, fun h => h.1⟩ Iff.rfl
 | .two k a b, hk, m, hm => by
   have iha := eM_ok xs a hk.2.1
   have ihb := eM_ok xs b hk.2.2
   unfold eM
   rcases hk.1 with rfl | rfl
   · rw [if_pos rfl]
     refine ⟨(ihb _ (iha m hm).1).1, fun j => ?_⟩
     have : (Rx.two 4 a b).L = fun u => ∃ x y, u = x ++ y ∧ a.L x ∧ b.L y := by funext u; simp [Rx.L]
     rw [this, endS_cat, (ihb _ (iha m hm).1).2, bits_fun (iha m hm).2]
   · rw [if_neg (by decide)]
     refine ⟨Nat.or_lt_two_pow (iha m hm).1 (ihb m hm).1, fun j => ?_⟩
     have : (Rx.two 5 a b).L = fun u => a.L u ∨ b.L u := by funext u; simp [Rx.L]
     rw [this, endS_or, bit_or, (iha m hm).2, (ihb m hm).2]
theorem eM_one {xs : List Int} {x : Rx} (hx : Kd x) {f : Nat} (hf : f ≤ xs.length) (j : Nat) : bit (eM xs x (2 ^ f)) j ↔ f ≤ j ∧ j ≤ xs.length ∧ x.L (btw xs f j) := by
 rw [(eM_ok xs x hx _ (Nat.pow_lt_pow_right (by decide) (by omega))).2]
 constructor
 · rintro ⟨i, h, h1, h2, h3⟩
   obtain rfl := (bit_two _ _).1 h
   exact ⟨h1, h2, h3⟩
 · rintro ⟨h1, h2, h3⟩
   exact ⟨f, (bit_two _ _).2 rfl, h1, h2, h3⟩
end E
end Go.Proofs.YtemanednddhfaaaGreatDoor
