/- Joined: JH. -/
import Derived.Test.YtgngaldoemopjaaGreatDoorFJF
import Derived.Test.YtgngaldoemopjaaGreatDoorFRk0
namespace Go.Proofs.YtgngaldoemopjaaGreatDoor
open Go.RowKit
def cK (x : X.Tk × Nat) : List Value := [.int .i64 (x.1.kind : Int), .int .i64 (x.2 : Int), .string ⟨x.1.text.toArray⟩, .int .i32 x.1.r]
def cT (l : List (X.Tk × Nat)) : List Value := l.flatMap cK
theorem cT_append (a b : List (X.Tk × Nat)) : cT (a ++ b) = cT a ++ cT b := by simp [cT]
theorem cT_one (x : X.Tk × Nat) : cT [x] = cK x := by simp [cT]
def OwnK (w : World) (B : Nat) (v : Value) (l : List (X.Tk × Nat)) : Prop := w.ownsRow B 111 4 v l.length (cT l)
theorem info60 : (Tryz.prog.info? 111).map (fun i => (i.zero, i.size, i.bytes)) = some (some (.agg #[.int .i64 0, .int .i64 0, .string ⟨#[]⟩, .int .i32 0]), 4, 40) := by kernel_rfl
theorem info_partsK {e : TypeId} {z : Value} {n k : Nat} (h : (Tryz.prog.info? e).map (fun i => (i.zero, i.size, i.bytes)) = some (some z, n, k)) : ∃ i, Tryz.prog.info? e = some i ∧ i.zero = some z ∧ i.size = n ∧ i.bytes = k := by
 cases hi : Tryz.prog.info? e with
 | none => rw [hi] at h; cases h
 | some i =>
   rw [hi] at h
   simp at h
   exact ⟨i, rfl, h.1, h.2.1, h.2.2⟩
end Go.Proofs.YtgngaldoemopjaaGreatDoor
namespace Go.Proofs.YtgngaldoemopjaaGreatDoor
open Go.RowKit Go.Shelf
attribute [local go_sem] Oper.semAt_some
def AnsX (r : Except Nat (List (X.Tk × Nat))) (B : Nat) (e : Ending) (w' : World) : Prop :=
 (∃ l v, r = .ok l ∧ e = .returned (.tuple #[v, .int .i64 0, .int .i64 0]) ∧ OwnK w' B v l) ∨ ∃ at_ : Nat, r = .error at_ ∧ e = .returned (.tuple #[.slice none 0 0, .int .i64 (at_ : Int), .int .i64 60])
def lastY (ys : List Yk) : Yk := ys.getLastD ((tz, 0), 0)
theorem lastY_snoc (ys : List Yk) (x : Yk) : lastY (ys ++ [x]) = x := by simp [lastY]
def sigs (ys : List Yk) : List (X.Tk × Nat) := ys.map (·.1)
theorem sigs_snoc (ys : List Yk) (x : Yk) : sigs (ys ++ [x]) = sigs ys ++ [x.1] := by simp [sigs]
theorem sigs_ok (l : List (X.Tk × Nat)) : sigs (okY l) = l := by simp [sigs, okY, Function.comp_def]
theorem stK_k {w : World} {Bn : Nat} {s : ByteArray} (W : World) (l : Nat) (o o' : Obj) (_ : w.heap.size ≤ l) (hl : W.heap[l]? = some o) (ho : o.isCells = false) (_ : o.isWalk = false) : StK Bn s W → StK Bn s (W.putObj l o') :=
 fun h => h.kept (grownBy_putObj' W l o') (fun r e => by cases e; exact ⟨o, hl, ho⟩)
theorem stK_of {w W : World} {Bn : Nat} {s : ByteArray} (ht : Tabs w) (hB : Below w.heap.size w W) (hbox : Boxed W Bn 9 (.string s)) : StK Bn s W := ⟨hbox.cell, ht.later hB⟩
theorem blkK {W w1 : World} {n₀ B' B size : Nat} {cs : Array Value} {t e : TypeId} {fz : Nat × Nat} {v : Value} {k : Nat} {xs : List Value} {tmp : Obj} (h : W.heap[B']? = some (.cells cs t fz)) (hte : t ≠ e) (hrow : W.ownsRow n₀ e size v k xs)
   (hgrow : (W.alloc tmp).grownBy w1 v.ownBlock) (hne : B' ≠ B) (v' : Value) : (w1.setCell ⟨B, 0, none⟩ v').heap[B']? = some (.cells cs t fz) := by
 have hlt : B' < W.heap.size := (Array.getElem?_eq_some_iff.1 h).1
 have h1 : w1.heap[B']? = some (.cells cs t fz) := by
   rw [hgrow.block B' (by simp; omega) (not_row h hte hrow), Below.heap_alloc W tmp B' hlt]
   exact h
 rw [(grownBy_setCell' w1 B v').block B' (Array.getElem?_eq_some_iff.1 h1).1 (by simpa using hne)]
 exact h1
theorem new_cells (W : World) (xs : List Value) (t : TypeId) (cs : Array Value) (hcs : cs = xs.toArray) : ∀ j u, xs[j]? = some u → (W.alloc (.cells cs t)).cell? ((⟨W.heap.size, 0, none⟩ : Addr).add j) = some u := by
 intro j u hj
 subst hcs
 rw [adAdd]
 simp only [World.cell?, heap_alloc_new, Nat.zero_add]
 simpa using hj
set_option maxRecDepth 100000 in
set_option maxHeartbeats 4000000 in
theorem scan_lex (s : ByteArray) (hs : s.size ≤ 100000) (w : World) (ht : Tabs w) :
   Calls Tryz.prog 46 #[.string s] w fun e W' => AnsX (X.scan 0 (bts s)) w.heap.size e W' ∧ Below w.heap.size w W' := by
 obtain ⟨i0, hi, hz0, hz1, hz2⟩ := info_partsK info60
 refine (callsIn_wide (n := 5)).1 ?_
 refine callsIn_of_wp_marks Tryz.func46 rfl trivial ?_ rfl
 simp only [Tryz.ntmps46, List.size_toArray, List.length_cons, List.length_nil, Nat.reduceAdd, Nat.reduceSub, Array.replicate_succ, Array.replicate_zero, List.push_toArray, List.append_toArray, List.nil_append, List.cons_append]
 gi_wp2_with (refine ⟨trivial, ?_⟩; gi_at_call 81; refine (sgn_in _ _ _).mono ?_; rintro e w' ⟨rfl, rfl⟩)
 obtain ⟨W0, hW0⟩ : ∃ W0, ((((w.alloc (.cells #[.slice none 0 0] 106)).alloc (.cells #[.int .i64 0] 3)).alloc (.cells #[.int .i64 0] 29)).alloc (.cells #[.slice none 0 0] 106)).alloc (.cells #[.string s] 9) = W0 := ⟨_, rfl⟩
 have hB0 : Below w.heap.size w W0 := by rw [← hW0]; exact (((((Below.refl _ w).alloc (Nat.le_refl _) _).alloc (by simp) _).alloc (by simp; omega) _).alloc (by simp; omega) _).alloc (by simp; omega) _
 have b0 : Boxed W0 w.heap.size 106 (.slice none 0 0) := by rw [← hW0]; exact ((((Boxed.new w 106 (.slice none 0 0)).alloc _).alloc _).alloc _).alloc _
 have b1 : Boxed W0 (w.heap.size + 1) 3 (.int .i64 0) := by
   have := (((Boxed.new (w.alloc (.cells #[.slice none 0 0] 106)) 3 (.int .i64 0)).alloc (.cells #[.int .i64 0] 29)).alloc (.cells #[.slice none 0 0] 106)).alloc (.cells #[.string s] 9)
   rw [hW0] at this
   simpa using this
 have b2 : Boxed W0 (w.heap.size + 1 + 1) 29 (.int .i64 0) := by
   have := ((Boxed.new ((w.alloc (.cells #[.slice none 0 0] 106)).alloc (.cells #[.int .i64 0] 3)) 29 (.int .i64 0)).alloc (.cells #[.slice none 0 0] 106)).alloc (.cells #[.string s] 9)
   rw [hW0] at this
   simpa using this
 have b3 : Boxed W0 (w.heap.size + 1 + 1 + 1) 106 (.slice none 0 0) := by
   have := (Boxed.new (((w.alloc (.cells #[.slice none 0 0] 106)).alloc (.cells #[.int .i64 0] 3)).alloc (.cells #[.int .i64 0] 29)) 106 (.slice none 0 0)).alloc (.cells #[.string s] 9)
   rw [hW0] at this
   simpa using this
 have b4 : Boxed W0 (w.heap.size + 1 + 1 + 1 + 1) 9 (.string s) := by
   have := Boxed.new ((((w.alloc (.cells #[.slice none 0 0] 106)).alloc (.cells #[.int .i64 0] 3)).alloc (.cells #[.int .i64 0] 29)).alloc (.cells #[.slice none 0 0] 106)) 9 (.string s)
   rw [hW0] at this
   simpa using this
 have hsz : W0.heap.size = w.heap.size + 5 := by rw [← hW0]; simp
 rw [hW0]
 clear hW0
 refine wpIn_rangeFunc_ownH rfl (by omega) (gf := 108) (lb := #[.pointer (some ⟨w.heap.size + 1 + 1 + 1 + 1, 0, none⟩)]) rfl trivial (enters_of Tryz.func108 (by kernel_rfl) rfl)
   (sgn_stops 4 (by omega) (w.heap.size + 1 + 1 + 1 + 1) s hs W0 (stK_of ht hB0 b4)) (fun h1 h2 x => h2 (h1 x)) (stK_k (w := W0)) (Below.refl _ _) (fun _ => rfl)
   (fun pre W => (((((∃ v, Boxed W (w.heap.size + 1 + 1 + 1) 106 v ∧ W.ownsRow w.heap.size 111 4 v pre.length (cT (sigs pre)) ∧ ∀ x ∈ pre, x.2 = 0) ∧ Boxed W w.heap.size 106 (.slice none 0 0)) ∧ Boxed W (w.heap.size + 1) 3 (.int .i64 0)) ∧ Boxed W (w.heap.size + 1 + 1) 29 (.int .i64 0)) ∧ Boxed W (w.heap.size + 1 + 1 + 1 + 1) 9 (.string s)) ∧ Below w.heap.size w W)
   (fun c (pre : List Yk) W => ((((c = .ret ∧ ∃ (p0 : List Yk) (x : Yk), pre = p0 ++ [x] ∧ x.2 ≠ 0) ∧ Boxed W w.heap.size 106 (.slice none 0 0)) ∧ Boxed W (w.heap.size + 1) 3 (.int .i64 ((lastY pre).1.2 : Int))) ∧ Boxed W (w.heap.size + 1 + 1) 29 (.int .i64 ((lastY pre).2 : Int))) ∧ Below w.heap.size w W)
   (OwnFrom.and (OwnFrom.and (OwnFrom.and (OwnFrom.and (OwnFrom.and (Own.from (holdsRow_own w.heap.size (w.heap.size + 1 + 1 + 1) 106 111 4 (fun pre => pre.length) (fun pre => cT (sigs pre)) (fun (pre : List Yk) _ => ∀ x ∈ pre, x.2 = 0)) _) (Own.from (boxed_own _ _ _) _)) (Own.from (boxed_own _ _ _) _)) (Own.from (boxed_own _ _ _) _)) (Own.from (boxed_own _ _ _) _)) (ownFrom_below (Nat.le_refl _) (by omega)))
   (fun c => OwnFrom.and (OwnFrom.and (OwnFrom.and (OwnFrom.and (ownFrom_pure _ (fun (pre : List Yk) => c = .ret ∧ ∃ (p0 : List Yk) (x : Yk), pre = p0 ++ [x] ∧ x.2 ≠ 0)) (Own.from (boxed_own _ _ _) _)) (Own.from (boxed_own _ _ (fun pre => .int .i64 ((lastY pre).1.2 : Int))) _)) (Own.from (boxed_own _ _ (fun pre => .int .i64 ((lastY pre).2 : Int))) _)) (ownFrom_below (Nat.le_refl _) (by omega)))
   ⟨⟨⟨⟨⟨⟨_, b3, World.ownsRow_nil _ _ _ _, fun x h => (by cases h)⟩, b0⟩, b1⟩, b2⟩, b4⟩, hB0⟩
   (fun x a' W => ∃ Bx, w.heap.size + 1 + 1 + 1 + 1 < Bx ∧ W.heap[Bx]? = some (.cells (cK x.1).toArray 111 (0, 0)) ∧ a' = { tmps := #[.string s, undef, .pointer (some ⟨w.heap.size, 0, none⟩), .pointer (some ⟨w.heap.size + 1, 0, none⟩), .pointer (some ⟨w.heap.size + 1 + 1, 0, none⟩), .pointer (some ⟨w.heap.size + 1 + 1 + 1, 0, none⟩), .pointer (some ⟨Bx, 0, none⟩), .int .i64 (x.2 : Int), .string s, .func (.func 108) #[] #[.pointer (some ⟨w.heap.size + 1 + 1 + 1 + 1, 0, none⟩)], tokV x.1.1 x.1.2, .int .i64 (x.2 : Int), undef, undef, undef, undef, undef, undef, undef, undef, undef, undef], defers := [] })
   (fun x a' _ X Y row hs hg hr => by
     obtain ⟨Bx, h1, h2, h3⟩ := hs
     exact ⟨Bx, h1, (grownBy_keeps_cells hg (fun r e => (hr r e).2) h2 rfl).trans h2, h3⟩)
   ?assign ?body ?done ?stop
 case assign =>
   rintro l pre x W K ⟨⟨⟨⟨⟨⟨v, b3', r3, hz⟩, b0'⟩, b1'⟩, b2'⟩, b4'⟩, hB1⟩ hK
   obtain ⟨⟨t, k⟩, er⟩ := x
   simp only [encK, tokV]
   gi_wp2
   refine hK _ _ ((KeepsOthers.alloc _ _).from _) (fun x => x.kept (World.grownBy_alloc W _ none) (fun r e => by cases e)) ⟨⟨⟨⟨⟨⟨v, b3'.alloc _, r3.alloc _, hz⟩, b0'.alloc _⟩, b1'.alloc _⟩, b2'.alloc _⟩, b4'.alloc _⟩, hB1.alloc hB1.size _⟩ ⟨W.heap.size, b4'.lt, World.alloc_heap_new W _, rfl⟩
 case body =>
   rintro l pre x a' W hl ⟨r, hr⟩ ⟨⟨⟨⟨⟨⟨v, b3', r3, hz⟩, b0'⟩, b1'⟩, b2'⟩, b4'⟩, hB1⟩ ⟨Bx, hBx, bX, rfl⟩ hlt
   obtain ⟨⟨t, k⟩, er⟩ := x
   simp only [cK] at bX
   unfold tokV
   have c3 := b3'.cell
   have g3 := b3'.frozen
   obtain ⟨x0, x1, x2, x3⟩ := cells_four bX
   by_cases her : er = 0
   · subst her
     gi_wp2_with (gi_at_builtin; refine wpListIn_append_own _ rfl _ _ 106 rfl w.heap.size 111 i0 _ 4 40 Tryz.underlying106 hi hz0 hz1 hz2 rfl (by decide) _ _ _ rfl (r3.alloc _) ⟨W.heap.size, 0, none⟩ 1 1 (cK (t, k)) rfl rfl (new_cells _ _ _ _ rfl) (by intro u hu; simp [cK] at hu; rcases hu with rfl | rfl | rfl | rfl <;> rfl) (by unfold maxLen; omega) (by omega) (by have := hB1.size; simp; omega) ?_; intro v' w1 hown' hgrow _; obtain ⟨g', cap', rfl⟩ := ownsRow_succ hown'; obtain ⟨hv1, hv2, hr2, hk2, hb2⟩ := b3'.appended (by decide) r3 hB1.size (by omega) hown' hgrow; (have hc1 := hv1.cell); (have hf1 := hv1.frozen))
     have hB2 := hB1.trans hb2
     have k0 := blkK (B := w.heap.size + 1 + 1 + 1) b0' (by decide) r3 hgrow (by omega) (.slice (some ⟨g', 0, none⟩) (pre.length + 1) cap')
     have k1 := blkK (B := w.heap.size + 1 + 1 + 1) b1' (by decide) r3 hgrow (by omega) (.slice (some ⟨g', 0, none⟩) (pre.length + 1) cap')
     have k2 := blkK (B := w.heap.size + 1 + 1 + 1) b2' (by decide) r3 hgrow (by omega) (.slice (some ⟨g', 0, none⟩) (pre.length + 1) cap')
     have k4 := blkK (B := w.heap.size + 1 + 1 + 1) b4' (by decide) r3 hgrow (by omega) (.slice (some ⟨g', 0, none⟩) (pre.length + 1) cap')
     refine ⟨hk2.from _, fun _ => stK_of ht hB2 k4, ⟨⟨⟨⟨⟨⟨_, hv2, ?_, fun x hx => (List.mem_append.1 hx).elim (hz x) (fun h => by simp at h; rw [h])⟩, k0⟩, k1⟩, k2⟩, k4⟩, hB2⟩⟩
     rw [sigs_snoc, cT_append, cT_one, List.length_append]
     exact hr2
   · have en : ((er : Int) != 0) = true := by simp; omega
     have c0 := b0'.cell
     have c1 := b1'.cell
     have c2 := b2'.cell
     have f0 := b0'.frozen
     have f1 := b1'.frozen
     have f2 := b2'.frozen
     gi_wp2
     obtain ⟨A1, hA1⟩ : ∃ A1, W.drew.setCell ⟨w.heap.size, 0, none⟩ (.slice none 0 0) = A1 := ⟨_, rfl⟩
     obtain ⟨A2, hA2⟩ : ∃ A2, A1.setCell ⟨w.heap.size + 1, 0, none⟩ (.int .i64 (k : Int)) = A2 := ⟨_, rfl⟩
     obtain ⟨A3, hA3⟩ : ∃ A3, A2.setCell ⟨w.heap.size + 1 + 1, 0, none⟩ (.int .i64 (er : Int)) = A3 := ⟨_, rfl⟩
     have b0d : Boxed W.drew w.heap.size 106 (.slice none 0 0) := b0'
     have b1d : Boxed W.drew (w.heap.size + 1) 3 (.int .i64 0) := b1'
     have b2d : Boxed W.drew (w.heap.size + 1 + 1) 29 (.int .i64 0) := b2'
     have b0A : Boxed A1 w.heap.size 106 (.slice none 0 0) := by rw [← hA1]; exact b0d.set _
     have b1A : Boxed A1 (w.heap.size + 1) 3 (.int .i64 0) := by rw [← hA1]; exact b1d.other (by omega) _
     have b2A : Boxed A1 (w.heap.size + 1 + 1) 29 (.int .i64 0) := by rw [← hA1]; exact b2d.other (by omega) _
     have b0B : Boxed A2 w.heap.size 106 (.slice none 0 0) := by rw [← hA2]; exact b0A.other (by omega) _
     have b1B : Boxed A2 (w.heap.size + 1) 3 (.int .i64 (k : Int)) := by rw [← hA2]; exact b1A.set _
     have b2B : Boxed A2 (w.heap.size + 1 + 1) 29 (.int .i64 0) := by rw [← hA2]; exact b2A.other (by omega) _
     have b0C : Boxed A3 w.heap.size 106 (.slice none 0 0) := by rw [← hA3]; exact b0B.other (by omega) _
     have b1C : Boxed A3 (w.heap.size + 1) 3 (.int .i64 (k : Int)) := by rw [← hA3]; exact b1B.other (by omega) _
     have b2C : Boxed A3 (w.heap.size + 1 + 1) 29 (.int .i64 (er : Int)) := by rw [← hA3]; exact b2B.set _
     have bXA : A1.heap[Bx]? = W.heap[Bx]? := by rw [← hA1]; exact Below.heap_setCell W.drew ⟨w.heap.size, 0, none⟩ (.slice none 0 0) Bx (by simp; omega)
     obtain ⟨_, xA, _, _⟩ := cells_four (bXA.trans bX)
     have q1 : Below w.heap.size W.drew A1 := by rw [← hA1]; exact (Below.refl _ _).setCell (p := ⟨w.heap.size, 0, none⟩) (Nat.le_refl _) _
     have q2 : Below w.heap.size A1 A2 := by rw [← hA2]; exact (Below.refl _ _).setCell (p := ⟨w.heap.size + 1, 0, none⟩) (by simp) _
     have q3 : Below w.heap.size A2 A3 := by rw [← hA3]; exact (Below.refl _ _).setCell (p := ⟨w.heap.size + 1 + 1, 0, none⟩) (by simp; omega) _
     have hB3 : Below w.heap.size w A3 := ((hB1.drew.trans q1).trans q2).trans q3
     have kk : KeepsOthers W A3 := by
       have k0 : KeepsOthers W.drew A3 := by rw [← hA3, ← hA2, ← hA1]; exact ((KeepsOthers.setCell _ _ _).trans (KeepsOthers.setCell _ _ _)).trans (KeepsOthers.setCell _ _ _)
       exact ⟨k0.size, k0.same⟩
     refine Reg.startR (B := w.heap.size) (by kernel_rfl) (by kernel_rfl) (by rintro ⟨_, _, h⟩; exact h) ?_
     refine Reg.take (fun _ _ _ _ _ h => h) 0 _ 14 (.pointer (some ⟨Bx, 1, none⟩)) rfl (by kernel_rfl) (by kernel_rfl) (by kernel_rfl) rfl (by kernel_rfl) (by kernel_rfl) (fun _ _ => by kernel_rfl) ?_
     refine Reg.take (fun _ _ _ _ _ h => h) 2 _ 16 (.int .i64 (er : Int)) rfl (by kernel_rfl) (by kernel_rfl) (by kernel_rfl) rfl (by kernel_rfl) (by kernel_rfl) (fun _ _ => by kernel_rfl) ?_
     refine Reg.two 1 3 (by kernel_rfl) ?_ ?_
     · refine Reg.brV 1 _ 15 rfl rfl (by kernel_rfl) (by kernel_rfl) ⟨.int .i64 (k : Int), _, w.heap.size, Reg.ld1 rfl (by kernel_rfl) (show W.drew.cell? ⟨Bx, 1, none⟩ = _ from x1) (Tryz.isAgg3 _), Nat.le_refl _, Below.refl _ _, ?_⟩
       refine Reg.one 3 (by kernel_rfl) (Reg.brN 3 _ rfl rfl (by kernel_rfl) (by kernel_rfl) ⟨A1, w.heap.size, hA1 ▸ Reg.st1 (v := .slice none 0 0) rfl (by kernel_rfl) (by kernel_rfl) b0d.cell b0d.frozen (.inr ⟨_, _, _, rfl⟩) (Tryz.sizeOf106 _), Nat.le_refl _, q1, ?_⟩)
       refine Reg.one 4 (by kernel_rfl) (Reg.brN 4 _ rfl rfl (by kernel_rfl) (by kernel_rfl) ⟨A2, w.heap.size, hA2 ▸ Reg.st1 (v := .int .i64 (k : Int)) rfl (by kernel_rfl) (by kernel_rfl) b1A.cell b1A.frozen (.inl ⟨_, _, rfl⟩) (Tryz.sizeOf3 _), Nat.le_refl _, q2, ?_⟩)
       refine Reg.one 5 (by kernel_rfl) (Reg.brN 5 _ rfl rfl (by kernel_rfl) (by kernel_rfl) ⟨A3, w.heap.size, hA3 ▸ Reg.st1 (v := .int .i64 (er : Int)) rfl (by kernel_rfl) (by kernel_rfl) b2B.cell b2B.frozen (.inl ⟨_, _, rfl⟩) (Tryz.sizeOf29 _), Nat.le_refl _, q3, ?_⟩)
       refine Reg.done (by kernel_rfl) ?_
       gi_wp2
       exact ⟨kk.from _, ⟨⟨⟨⟨rfl, pre, _, rfl, her⟩, b0C⟩, (by rw [lastY_snoc]; exact b1C)⟩, (by rw [lastY_snoc]; exact b2C)⟩, hB3⟩
     · refine Reg.brN 3 _ rfl rfl (by kernel_rfl) (by kernel_rfl) ⟨A1, w.heap.size, hA1 ▸ Reg.st1 (v := .slice none 0 0) rfl (by kernel_rfl) (by kernel_rfl) b0d.cell b0d.frozen (.inr ⟨_, _, _, rfl⟩) (Tryz.sizeOf106 _), Nat.le_refl _, q1, ?_⟩
       refine Reg.one 1 (by kernel_rfl) (Reg.brV 1 _ 15 rfl rfl (by kernel_rfl) (by kernel_rfl) ⟨.int .i64 (k : Int), _, w.heap.size, Reg.ld1 rfl (by kernel_rfl) xA (Tryz.isAgg3 _), Nat.le_refl _, Below.refl _ _, ?_⟩)
       refine Reg.one 4 (by kernel_rfl) (Reg.brN 4 _ rfl rfl (by kernel_rfl) (by kernel_rfl) ⟨A2, w.heap.size, hA2 ▸ Reg.st1 (v := .int .i64 (k : Int)) rfl (by kernel_rfl) (by kernel_rfl) b1A.cell b1A.frozen (.inl ⟨_, _, rfl⟩) (Tryz.sizeOf3 _), Nat.le_refl _, q2, ?_⟩)
       refine Reg.one 5 (by kernel_rfl) (Reg.brN 5 _ rfl rfl (by kernel_rfl) (by kernel_rfl) ⟨A3, w.heap.size, hA3 ▸ Reg.st1 (v := .int .i64 (er : Int)) rfl (by kernel_rfl) (by kernel_rfl) b2B.cell b2B.frozen (.inl ⟨_, _, rfl⟩) (Tryz.sizeOf29 _), Nat.le_refl _, q3, ?_⟩)
       refine Reg.done (by kernel_rfl) ?_
       gi_wp2
       exact ⟨kk.from _, ⟨⟨⟨⟨rfl, pre, _, rfl, her⟩, b0C⟩, (by rw [lastY_snoc]; exact b1C)⟩, (by rw [lastY_snoc]; exact b2C)⟩, hB3⟩
 case done =>
   rintro D ys W hD hT ⟨⟨⟨⟨⟨⟨v, b3', r3, hz⟩, b0'⟩, b1'⟩, b2'⟩, b4'⟩, hB1⟩ hK
   have c3 := b3'.cell
   have c0 := b0'.cell
   have c1 := b1'.cell
   have c2 := b2'.cell
   have f0 := b0'.frozen
   have f1 := b1'.frozen
   have f2 := b2'.frozen
   obtain ⟨ao, cap, rfl⟩ : ∃ ao cap, v = .slice ao ys.length cap := by
     rcases r3.2 with ⟨h, h0⟩ | ⟨g, cap, cur, h, _⟩
     · exact ⟨none, 0, by rw [h, h0]⟩
     · exact ⟨_, _, h⟩
   gi_wp2
   obtain ⟨A1, hA1⟩ : ∃ A1, W.setCell ⟨w.heap.size, 0, none⟩ (.slice ao ys.length cap) = A1 := ⟨_, rfl⟩
   obtain ⟨A2, hA2⟩ : ∃ A2, A1.setCell ⟨w.heap.size + 1, 0, none⟩ (.int .i64 0) = A2 := ⟨_, rfl⟩
   obtain ⟨A3, hA3⟩ : ∃ A3, A2.setCell ⟨w.heap.size + 1 + 1, 0, none⟩ (.int .i64 0) = A3 := ⟨_, rfl⟩
   have b0A : Boxed A1 w.heap.size 106 (.slice ao ys.length cap) := by rw [← hA1]; exact b0'.set _
   have b1A : Boxed A1 (w.heap.size + 1) 3 (.int .i64 0) := by rw [← hA1]; exact b1'.other (by omega) _
   have b2A : Boxed A1 (w.heap.size + 1 + 1) 29 (.int .i64 0) := by rw [← hA1]; exact b2'.other (by omega) _
   have b0B : Boxed A2 w.heap.size 106 (.slice ao ys.length cap) := by rw [← hA2]; exact b0A.other (by omega) _
   have b1B : Boxed A2 (w.heap.size + 1) 3 (.int .i64 0) := by rw [← hA2]; exact b1A.set _
   have b2B : Boxed A2 (w.heap.size + 1 + 1) 29 (.int .i64 0) := by rw [← hA2]; exact b2A.other (by omega) _
   have b0C : Boxed A3 w.heap.size 106 (.slice ao ys.length cap) := by rw [← hA3]; exact b0B.other (by omega) _
   have b1C : Boxed A3 (w.heap.size + 1) 3 (.int .i64 0) := by rw [← hA3]; exact b1B.other (by omega) _
   have b2C : Boxed A3 (w.heap.size + 1 + 1) 29 (.int .i64 0) := by rw [← hA3]; exact b2B.set _
   have rA : A1.ownsRow w.heap.size 111 4 (.slice ao ys.length cap) ys.length (cT (sigs ys)) := by rw [← hA1]; exact r3.kept (grownBy_setCell' W w.heap.size _) (.inr (not_row b0' (by decide) r3).symm)
   have rB : A2.ownsRow w.heap.size 111 4 (.slice ao ys.length cap) ys.length (cT (sigs ys)) := by rw [← hA2]; exact rA.kept (grownBy_setCell' A1 (w.heap.size + 1) _) (.inr (not_row b1A (by decide) rA).symm)
   have rC : A3.ownsRow w.heap.size 111 4 (.slice ao ys.length cap) ys.length (cT (sigs ys)) := by rw [← hA3]; exact rB.kept (grownBy_setCell' A2 (w.heap.size + 1 + 1) _) (.inr (not_row b2B (by decide) rB).symm)
   have hB3 : Below w.heap.size w A3 := by
     rw [← hA3, ← hA2, ← hA1]
     exact ((hB1.setCell (p := ⟨w.heap.size, 0, none⟩) (Nat.le_refl _) _).setCell (p := ⟨w.heap.size + 1, 0, none⟩) (by simp) _).setCell (p := ⟨w.heap.size + 1 + 1, 0, none⟩) (by simp; omega) _
   have kk : KeepsOthers W A3 := by rw [← hA3, ← hA2, ← hA1]; exact ((KeepsOthers.setCell _ _ _).trans (KeepsOthers.setCell _ _ _)).trans (KeepsOthers.setCell _ _ _)
   have hK' := kk.same D _ hK rfl
   rw [hA1, hA2, hA3]
   clear hA1 hA2 hA3
   refine ⟨by simp, .inl ⟨_, _, rfl, run_takeDeferred hK', ?_⟩⟩
   have e0 := cell_kept b0C.cell (grownBy_putObj' _ D (.deferred none)) (fun r e => by cases e; exact ⟨_, hK', rfl⟩)
   have e1 := cell_kept b1C.cell (grownBy_putObj' _ D (.deferred none)) (fun r e => by cases e; exact ⟨_, hK', rfl⟩)
   have e2 := cell_kept b2C.cell (grownBy_putObj' _ D (.deferred none)) (fun r e => by cases e; exact ⟨_, hK', rfl⟩)
   refine ⟨.tuple #[.slice ao ys.length cap, .int .i64 0, .int .i64 0], ?_, ?_, hB3.trans (belowK_b (w := w) (Nat.le_refl _) _ D _ _ (by omega) hK' rfl rfl)⟩
   · simp [results, Tryz.f46, go_sem, e0, e1, e2]
   · rcases hT with ⟨l, hl, rfl⟩ | ⟨at_, q, _, rfl⟩
     · refine .inl ⟨l, _, hl, rfl, ?_⟩
       have := ownsRow_putObj (W := A3) rC (.deferred none) hK' rfl
       unfold OwnK
       rw [sigs_ok, okY_length] at this
       rw [okY_length]
       exact this
     · have := hz ((tz, at_), 60) (by simp)
       cases this
 case stop =>
   rintro D c pre W hD hpre ⟨⟨⟨⟨⟨rfl, p0, x, rfl, hx⟩, b0'⟩, b1'⟩, b2'⟩, hB1⟩ hK
   obtain ⟨hE, h60⟩ := hpre p0 x rfl hx
   rw [lastY_snoc] at b1' b2'
   have c0 := b0'.cell
   have c1 := b1'.cell
   have c2 := b2'.cell
   gi_wp2
   refine ⟨by simp, .inl ⟨_, _, rfl, run_takeDeferred hK, ?_⟩⟩
   have e0 := cell_kept c0 (grownBy_putObj' _ D (.deferred none)) (fun r e => by cases e; exact ⟨_, hK, rfl⟩)
   have e1 := cell_kept c1 (grownBy_putObj' _ D (.deferred none)) (fun r e => by cases e; exact ⟨_, hK, rfl⟩)
   have e2 := cell_kept c2 (grownBy_putObj' _ D (.deferred none)) (fun r e => by cases e; exact ⟨_, hK, rfl⟩)
   rw [h60] at e2
   refine ⟨.tuple #[.slice none 0 0, .int .i64 (x.1.2 : Int), .int .i64 60], ?_, .inr ⟨x.1.2, hE, rfl⟩, hB1.trans (belowK_b (w := w) (Nat.le_refl _) W D _ _ (by omega) hK rfl rfl)⟩
   simp [results, Tryz.f46, go_sem, e0, e1, e2]
end Go.Proofs.YtgngaldoemopjaaGreatDoor
namespace Go.Proofs.YtgngaldoemopjaaGreatDoor
open Go.RowKit
theorem cT_at : ∀ (l : List (X.Tk × Nat)) (i : Nat) (h : i < l.length) (j : Nat), j < 4 → (cT l)[i * 4 + j]? = (cK l[i])[j]?
 | x :: l, 0, _, j, hj => by
   have : cT (x :: l) = cK x ++ cT l := rfl
   rw [this, Nat.zero_mul, Nat.zero_add, List.getElem?_append_left (by simp [cK]; omega)]
   rfl
 | x :: l, i + 1, h, j, hj => by
   have e : cT (x :: l) = cK x ++ cT l := rfl
   have hc : (cK x).length = 4 := by simp [cK]
   rw [e, List.getElem?_append_right (by rw [hc]; omega), hc, show (i + 1) * 4 + j - 4 = i * 4 + j by omega, cT_at l i (by simpa using h) j hj]
   rfl
theorem OwnK.rd {w : World} {B : Nat} {v : Value} {l : List (X.Tk × Nat)} (h : OwnK w B v l) : ∃ ao cap, v = .slice ao l.length cap ∧ l.length ≤ cap ∧ (ao = none → cap = 0) ∧ RdK w ao l := by
 obtain ⟨_, h | ⟨g, cap, cur, rfl, _, hg, hle, _, hsz, hxs⟩⟩ := h
 · obtain ⟨rfl, hn⟩ := h
   have : l = [] := List.eq_nil_of_length_eq_zero hn
   subst this
   exact ⟨none, 0, rfl, Nat.le_refl _, fun _ => rfl, fun i h => by simp at h⟩
 · refine ⟨_, cap, rfl, hle, fun h => (by cases h), fun i hi => ⟨g, 0, rfl, ?_⟩⟩
   have key : ∀ j, j < 4 → w.cell? ⟨g, 0 + i * 4 + j, none⟩ = (cK l[i])[j]? := by
     intro j hj
     have h1 : (cur.toList.take (l.length * 4))[i * 4 + j]? = (cT l)[i * 4 + j]? := by rw [hxs]
     rw [List.getElem?_take, if_pos (by omega), cT_at l i hi j hj] at h1
     simp only [World.cell?, hg, Nat.zero_add]
     rw [← h1]
     simp
   exact ⟨key 0 (by omega), key 1 (by omega), key 2 (by omega), key 3 (by omega)⟩
namespace X
open M
theorem next_text {s : List UInt8} {t : Tk} {n : Nat} (h : nextL s = some (t, n)) : t.text.length ≤ s.length ∧ 0 ≤ t.r ∧ t.r ≤ 1114111 := by
 cases s with
 | nil => simp [nextL] at h
 | cons c u =>
   unfold nextL at h
   simp only at h
   split at h
   · cases h; simp
   · split at h
     · split at h
       · cases h
         have := takeWhile_le isLD u
         simp; omega
       · cases h
     · split at h
       · split at h
         · cases h
           have := takeWhile_le isD (c :: u)
           simp at this ⊢; omega
         · cases h
       · split at h
         · cases h
           have := takeWhile_le isI (c :: u)
           simp at this ⊢; omega
         · split at h
           · unfold word at h
             cases hw : wordB u with
             | none => rw [hw] at h; cases h
             | some p =>
               rw [hw] at h
               have := wordB_size u p hw
               simp only at h
               split at h
               · cases h; simp; omega
               · cases h
           · split at h
             · unfold charL at h
               cases u with
               | nil => cases h
               | cons x v =>
                 simp only at h
                 split at h
                 · unfold charN at h
                   split at h
                   · split at h
                     · rename_i hc
                       cases h
                       have := hc.2.2.2.2.1
                       simp; omega
                     · cases h
                   · cases h
                 · split at h
                   · cases h
                     have := dec_point (x :: v)
                     simp; omega
                   · cases h
             · split at h
               · split at h
                 · cases h
                   have h1 := takeWhile_le isL u
                   simp; omega
                 · cases h
               · split at h
                 · cases h
                   simp; omega
                 · split at h
                   · cases h; simp
                   · cases h
theorem scan_sizes (at_ : Nat) (s : List UInt8) : ∀ l, scan at_ s = .ok l → l.length ≤ s.length + 1 ∧ ∀ p ∈ l, p.1.text.length ≤ s.length ∧ 0 ≤ p.1.r ∧ p.1.r ≤ 1114111 := by
 refine scan_ind (p := fun at_ s => ∀ l, scan at_ s = .ok l → l.length ≤ s.length + 1 ∧ ∀ p ∈ l, p.1.text.length ≤ s.length ∧ 0 ≤ p.1.r ∧ p.1.r ≤ 1114111) ?_ ?_ ?_ ?_ ?_ at_ s
 · intro at_ l h
   rw [scan_nil] at h
   cases h
   simp
 · intro at_ c u hb ih l h
   rw [scan_blank _ _ hb] at h
   obtain ⟨h1, h2⟩ := ih l h
   exact ⟨by simp; omega, fun p hp => by have := h2 p hp; simp; omega⟩
 · intro at_ u ih l h
   rw [scan_com] at h
   obtain ⟨h1, h2⟩ := ih l h
   rw [List.length_drop] at h1 h2
   exact ⟨by omega, fun p hp => by have := h2 p hp; omega⟩
 · intro at_ c u hb hc hn l h
   rw [scan_none _ _ hb hc hn] at h
   cases h
 · intro at_ c u t n hb hc hn ih l h
   rw [scan_some _ _ hb hc hn] at h
   have hs := next_size hn
   have ht := next_text hn
   cases hr : scan (at_ + n) ((c :: u).drop n) with
   | error e => rw [hr] at h; cases h
   | ok m =>
     rw [hr] at h
     cases h
     obtain ⟨h1, h2⟩ := ih m hr
     rw [List.length_drop] at h1 h2
     refine ⟨by simp only [List.length_cons] at h1 hs ⊢; omega, fun p hp => ?_⟩
     rcases List.mem_cons.1 hp with rfl | hp
     · exact ht
     · have := h2 p hp
       omega
end X
end Go.Proofs.YtgngaldoemopjaaGreatDoor
