/- Joined: UHas Pls. -/
import Derived.Test.YtgngaldoemopjaaGreatDoorESqr
import Derived.Test.YtgngaldoemopjaaGreatDoorEPlj
namespace Go.Proofs.YtgngaldoemopjaaGreatDoor.U
open Go.RowKit Go.Shelf
attribute [local go_sem] Oper.semAt_some
def S.hB (l : List S.R) (p : Int) : Bool := S.hasB (S.goods l) p
theorem S.hB_iff (l : List S.R) (p : Int) : S.hB l p = true ↔ S.hs l p := S.hasB_iff _ _
def S.miss (pre : List S.R) (r : Int) : Prop := ∀ s ∈ pre, ¬ (s.1 ≤ r ∧ r ≤ s.2)
theorem S.miss_snoc {pre : List S.R} {r x1 x2 : Int} (h : S.miss pre r) (hx : ¬ (x1 ≤ r ∧ r ≤ x2)) : S.miss (pre ++ [(x1, x2)]) r := by
 intro s hs
 rcases List.mem_append.1 hs with h' | h'
 · exact h s h'
 · obtain rfl : s = (x1, x2) := by simpa using h'
   exact hx
theorem mine_none (n0 n1 : Nat) : Mine n0 n1 (fun _ => True) (fun _ _ => False) where
 lt _ _ _ h := h.elim
 grow _ _ _ _ := ⟨trivial, fun _ h => h⟩
 turn _ _ _ _ _ _ _ _ := ⟨trivial, fun _ h => h⟩
set_option maxRecDepth 100000 in
set_option maxHeartbeats 4000000 in
theorem has_any (ao : Option Addr) (ca : Nat) (xs : List S.R) (r : Int) (hl : xs.length ≤ 1000000) (w : World) (h : RdR w ao xs) :
   Calls Tryz.prog 44 #[.slice ao xs.length ca, .int .i32 r] w fun e W' => e = .returned (.bool (S.hB xs r)) ∧ Below w.heap.size w W' := by
 refine (callsIn_wide (n := 5)).1 ?_
 refine callsIn_of_wp_marks Tryz.func44 rfl trivial ?_ rfl
 simp only [Tryz.ntmps44, List.size_toArray, List.length_cons, List.length_nil, Nat.reduceAdd, Nat.reduceSub, Array.replicate_succ, Array.replicate_zero, List.push_toArray, List.append_toArray, List.nil_append, List.cons_append]
 have hb2 := al2 w (.cells #[.int .i32 r] 21) (.cells #[.bool false] 4)
 have hgo := fun T => goodSpans_gives (w.heap.size + 2) 0 1 [(ao, ca, xs)] (by simp) (fun p hp => by simp at hp; subst hp; exact hl) _ (by
   have := rdl_one (ca := ca) T (h.later hb2)
   simp only [World.size_alloc] at this
   exact this)
 rw [show flat [(ao, ca, xs)] = xs by simp [flat]] at hgo
 gi_wp2_with (refine ⟨trivial, ?_⟩; gi_at_call 80; refine (callsIn_wide.2 (hgo _)).mono ?_; rintro e wi ⟨v, rfl, hit, hbi⟩; obtain ⟨gf, lb, rfl, heg, hgives⟩ := hit)
 have b3 : Boxed wi w.heap.size 21 (.int .i32 r) := (hbi.block w.heap.size (by simp; omega)).trans (((Boxed.new w 21 (.int .i32 r)).alloc (.cells #[.bool false] 4)).alloc (.cells #[.slice ao xs.length ca] 22))
 have b4 : Boxed wi (w.heap.size + 1) 4 (.bool false) := by
   have := (Boxed.new (w.alloc (.cells #[.int .i32 r] 21)) 4 (.bool false)).alloc (.cells #[.slice ao xs.length ca] 22)
   rw [World.size_alloc] at this
   exact (hbi.block (w.heap.size + 1) (by simp)).trans this
 have hB0 : Below w.heap.size w wi := nx (nx hb2 (al1 _ _)) hbi
 have hsz : w.heap.size + 3 ≤ wi.heap.size := by have := hbi.size; simp at this; omega
 clear hgo hbi hb2
 have HG : Hid (S.hB xs r = S.hasB (S.goods xs) r) := rfl
 refine wpIn_rangeFunc_ownH rfl (by omega) (gf := gf) (lb := lb) rfl trivial heg (hgives 4 (by omega) wi (Below.refl _ _) wi.heap.size _ _ (mine_none _ _) trivial) kpM_t (kpM_b (mine_none wi.heap.size wi.heap.size)) (Below.refl _ _) (fun _ => rfl)
   (fun pre W => ((S.miss pre r ∧ Boxed W w.heap.size 21 (.int .i32 r)) ∧ Boxed W (w.heap.size + 1) 4 (.bool false)) ∧ Below w.heap.size w W)
   (fun c pre W => ((c = .ret ∧ (∃ s ∈ pre, s.1 ≤ r ∧ r ≤ s.2)) ∧ Boxed W (w.heap.size + 1) 4 (.bool true)) ∧ Below w.heap.size w W)
   (OwnFrom.and (OwnFrom.and (OwnFrom.and (ownFrom_pure _ _) (Own.from (boxed_own _ _ _) _)) (Own.from (boxed_own _ _ _) _)) (ownFrom_below (Nat.le_refl _) (by omega)))
   (fun c => OwnFrom.and (OwnFrom.and (ownFrom_pure _ _) (Own.from (boxed_own _ _ _) _)) (ownFrom_below (Nat.le_refl _) (by omega)))
   ⟨⟨⟨fun s h => (by cases h), b3⟩, b4⟩, hB0⟩
   (fun x a' W => ∃ Bx, w.heap.size + 1 < Bx ∧ W.heap[Bx]? = some (.cells #[.int .i32 x.1, .int .i32 x.2] 160 (0, 0)) ∧ a' = { tmps := #[.slice ao xs.length ca, .int .i32 r, undef, .pointer (some ⟨w.heap.size, 0, none⟩), .pointer (some ⟨w.heap.size + 1, 0, none⟩), .pointer (some ⟨Bx, 0, none⟩), .slice ao xs.length ca, .slice (some ⟨w.heap.size + 1 + 1, 0, none⟩) 1 1, .func (.func gf) #[] lb, .agg #[.int .i32 x.1, .int .i32 x.2], undef, undef, undef, undef, undef, undef, undef, undef, undef, undef], defers := [] })
   (fun x a' _ X Y row hs hg hr => by
     obtain ⟨Bx, h1, h2, h3⟩ := hs
     exact ⟨Bx, h1, (grownBy_keeps_cells hg (fun r e => (hr r e).2) h2 rfl).trans h2, h3⟩)
   ?assign ?body ?done ?stop
 case assign =>
   rintro l pre x W K ⟨⟨⟨hp, b31⟩, b41⟩, hB1⟩ hK
   simp only [encP]
   gi_wp2
   exact hK _ _ ((KeepsOthers.alloc _ _).from _) (kpM_below (mine_none 0 0) (al1 W _)) ⟨⟨⟨hp, b31.alloc _⟩, b41.alloc _⟩, hB1.alloc hB1.size _⟩ ⟨W.heap.size, b41.lt, World.alloc_heap_new W _, rfl⟩
 case body =>
   rintro l pre x a' W hl ⟨r', hr⟩ ⟨⟨⟨hp, b31⟩, b41⟩, hB1⟩ ⟨Bx, hBx, bX, rfl⟩ hlt
   obtain ⟨x1, x2⟩ := x
   simp only at bX
   have c3 := b31.cell
   have c4 := b41.cell
   have f4 := b41.frozen
   obtain ⟨cX0, cX1⟩ := cells_two bX
   by_cases h1 : x1 ≤ r
   · by_cases h2 : r ≤ x2
     · gi_wp2
       exact ⟨(KeepsOthers.setCell _ _ _).from _, ⟨⟨rfl, (x1, x2), by simp, h1, h2⟩, b41.set _⟩, hB1.setCell (p := ⟨w.heap.size + 1, 0, none⟩) (by simp) _⟩
     · have h2' : x2 < r := by omega
       gi_wp2
       exact ⟨KeepsFrom.refl _ _, kpM_below (mine_none 0 0) (Below.refl _ _), ⟨⟨S.miss_snoc hp (by omega), b31⟩, b41⟩, hB1⟩
   · have h1' : r < x1 := by omega
     gi_wp2
     exact ⟨KeepsFrom.refl _ _, kpM_below (mine_none 0 0) (Below.refl _ _), ⟨⟨S.miss_snoc hp (by omega), b31⟩, b41⟩, hB1⟩
 case done =>
   rintro D ys W hD rfl ⟨⟨⟨hp, b31⟩, b41⟩, hB1⟩ hK
   have c4 := b41.cell
   have f4 := b41.frozen
   gi_wp2
   have hK' := (KeepsOthers.setCell W ⟨w.heap.size + 1, 0, none⟩ (.bool false)).same D _ hK rfl
   refine ⟨by simp, .inl ⟨_, _, rfl, run_takeDeferred hK', ?_⟩⟩
   have hc5 := cell_kept (b41.set (.bool false)).cell (grownBy_putObj' _ D (.deferred none)) (fun r e => by cases e; exact ⟨_, hK', rfl⟩)
   have hg : S.hB xs r = false := by
     cases hh : S.hB xs r with
     | false => rfl
     | true =>
       obtain ⟨s, hs, h1⟩ := (S.hB_iff xs r).1 hh
       exact absurd h1 (hp s hs)
   refine ⟨.bool false, ?_, by rw [hg], (hB1.setCell (p := ⟨w.heap.size + 1, 0, none⟩) (by simp) _).trans (belowK_b (w := w) (Nat.le_refl _) _ D _ _ (by omega) hK' rfl rfl)⟩
   simp [results, Tryz.f44, go_sem, hc5]
 case stop =>
   rintro D c pre W hD hpre ⟨⟨⟨rfl, s, hs, hsg⟩, b41⟩, hB1⟩ hK
   gi_wp2
   refine ⟨by simp, .inl ⟨_, _, rfl, run_takeDeferred hK, ?_⟩⟩
   have hc5 := cell_kept b41.cell (grownBy_putObj' _ D (.deferred none)) (fun r e => by cases e; exact ⟨_, hK, rfl⟩)
   have hg : S.hB xs r = true := (S.hB_iff xs r).2 ⟨s, hpre.subset hs, hsg⟩
   refine ⟨.bool true, ?_, by rw [hg], hB1.trans (belowK_b (w := w) (Nat.le_refl _) W D _ _ (by omega) hK rfl rfl)⟩
   simp [results, Tryz.f44, go_sem, hc5]
end Go.Proofs.YtgngaldoemopjaaGreatDoor.U
namespace Go.Proofs.YtgngaldoemopjaaGreatDoor
open Go.RowKit Go.Shelf
attribute [local go_sem] Oper.semAt_some
theorem bdrew {n : Nat} {a w : World} (h : Below n a.drew w) : Below n a w := ⟨h.os, h.tape, h.output, h.size, h.block⟩
theorem folQ_at {qs : List (PA.Pl × Value)} {i : Nat} (h : i < qs.length) : folQ qs (i : Int) = qs[i].1.2 := by unfold folQ; rw [if_pos ⟨by omega, by omega⟩]; simp [h]
theorem folQ_lt {qs : List (PA.Pl × Value)} (hq : ∀ q ∈ qs, q.1.2 < 2 ^ 64) (i : Int) : folQ qs i < 2 ^ 64 := by
 unfold folQ
 split
 · cases h : qs[i.toNat]? with
   | none => simp
   | some q => simpa using hq q (List.mem_of_getElem? h)
 · decide
theorem box3 (w : World) (o1 o2 o3 : Obj) : (((w.alloc o1).alloc o2).alloc o3).heap[w.heap.size]? = some o1 ∧ (((w.alloc o1).alloc o2).alloc o3).heap[w.heap.size + 1]? = some o2 ∧ (((w.alloc o1).alloc o2).alloc o3).heap[w.heap.size + 2]? = some o3 ∧ (((w.alloc o1).alloc o2).alloc o3).heap.size = w.heap.size + 3 ∧ Below w.heap.size w (((w.alloc o1).alloc o2).alloc o3) := by
 have b1 := al1 w o1
 have b2 := al1 (w.alloc o1) o2
 have b3 := al1 ((w.alloc o1).alloc o2) o3
 have n1 := heap_alloc_new w o1
 have n2 := heap_alloc_new (w.alloc o1) o2
 have n3 := heap_alloc_new ((w.alloc o1).alloc o2) o3
 have s1 : (w.alloc o1).heap.size = w.heap.size + 1 := by simp
 have s2 : ((w.alloc o1).alloc o2).heap.size = w.heap.size + 2 := by simp
 rw [s1] at n2
 rw [s2] at n3
 exact ⟨(b3.block _ (by omega)).trans ((b2.block _ (by omega)).trans n1), (b3.block _ (by omega)).trans n2, n3, by simp, nx b1 (nx b2 b3)⟩
def fQ (qs : List (PA.Pl × Value)) (i : Nat) : Nat := folQ qs (i : Int)
set_option maxRecDepth 100000 in
set_option maxHeartbeats 4000000 in
theorem behind_in {w : World} {B A : Nat} {v : Value} {qs : List (PA.Pl × Value)} {x : PA.En} (hA : AutoW w B A v qs x) (s : Nat) (hs : s < 2 ^ 64) (hx : x.f < 2 ^ 64) (hq : ∀ q ∈ qs, q.1.2 < 2 ^ 64) (hd : Deb w) :
   CallsIn Fence.wide 9 Tryz.prog 42 #[.pointer (some ⟨A, 0, none⟩), .int .u64 (s : Int)] w fun e W => e = .returned (.int .u64 ((PA.orL (fQ qs) (plc s) (if s.testBit 63 then x.f else 0) : Nat) : Int)) ∧ Below w.heap.size w W := by
 have hAl : A < w.heap.size := (Array.getElem?_eq_some_iff.1 hA.box).1
 have e2 : bits .and .u64 (s : Int) 9223372036854775808 = ((s &&& 9223372036854775808 : Nat) : Int) := bits_and_u64_nat s 9223372036854775808 hs (by decide)
 have e3 := PA.bg_bit s
 have e5 : (((s &&& 9223372036854775808 : Nat) : Int) != 0) = s.testBit 63 := by
   rw [Bool.eq_iff_iff, ← e3]; simp
 have hx0 : (if s.testBit 63 then x.f else 0) < 2 ^ 64 := by split <;> omega
 have b1 := al1 w (.cells #[.pointer (some ⟨A, 0, none⟩)] 52)
 have n1 := heap_alloc_new w (.cells #[.pointer (some ⟨A, 0, none⟩)] 52)
 have s1 : (w.alloc (.cells #[.pointer (some ⟨A, 0, none⟩)] 52)).heap.size = w.heap.size + 1 := by simp
 have b2 := al1 (w.alloc (.cells #[.pointer (some ⟨A, 0, none⟩)] 52)) (.cells #[.int .u64 0] 85)
 have n2 := heap_alloc_new (w.alloc (.cells #[.pointer (some ⟨A, 0, none⟩)] 52)) (.cells #[.int .u64 0] 85)
 have s2 : ((w.alloc (.cells #[.pointer (some ⟨A, 0, none⟩)] 52)).alloc (.cells #[.int .u64 0] 85)).heap.size = w.heap.size + 2 := by simp
 have hA1 := (hA.later (nx b1 b2)).cells.2.1
 rw [s1] at n2
 have n1' := (b2.block w.heap.size (by omega)).trans n1
 have B2 := nx b1 b2
 clear e3
 obtain ⟨x0, hx0e⟩ : ∃ x0, (if s.testBit 63 then x.f else 0) = x0 := ⟨_, rfl⟩
 rw [hx0e] at hx0 ⊢
 refine callsIn_of_wp_marks Tryz.func42 rfl trivial ?_ rfl
 simp only [Tryz.ntmps42, List.size_toArray, List.length_cons, List.length_nil, Nat.reduceAdd, Nat.reduceSub, Array.replicate_succ, Array.replicate_zero, List.push_toArray, List.append_toArray, List.nil_append, List.cons_append]
 have hmk := fun W => places_make s W
 cases hb : s.testBit 63
 · rw [hb] at e5 hx0e
   simp only [if_false, Bool.false_eq_true] at hx0e
   obtain rfl := hx0e
   gi_wp2_with (refine ⟨trivial, ?_⟩; gi_at_call 43; refine (callsIn_wide.2 (hmk _)).mono ?_; rintro e w2 ⟨rfl, rfl⟩)
   obtain ⟨hX1, hX2, hX3, hXs, hXb⟩ := box3 w (.cells #[.pointer (some ⟨A, 0, none⟩)] 52) (.cells #[.int .u64 ((0 : Nat) : Int)] 85) (.cells #[.int .u64 (s : Int)] 85)
   obtain ⟨X, hX⟩ : ∃ X, ((w.alloc (.cells #[.pointer (some ⟨A, 0, none⟩)] 52)).alloc (.cells #[.int .u64 ((0 : Nat) : Int)] 85)).alloc (.cells #[.int .u64 (s : Int)] 85) = X := ⟨_, rfl⟩
   rw [hX] at hX1 hX2 hX3 hXs hXb
   rw [show (((w.alloc (.cells #[.pointer (some ⟨A, 0, none⟩)] 52)).alloc (.cells #[.int .u64 0] 85)).alloc (.cells #[.int .u64 (s : Int)] 85)) = X from hX]
   clear hX
   have hl := hA.lt
   refine places_range (m := s) (fun i a => a.heap[w.heap.size]? = some (.cells #[.pointer (some ⟨A, 0, none⟩)] 52) ∧ a.heap[w.heap.size + 1]? = some (.cells #[.int .u64 ((PA.orL (fQ qs) ((plc s).take i) (0 : Nat) : Nat) : Int)] 85) ∧ Below w.heap.size w a) rfl rfl hX3 hs ?st (fun i a h => hd.later h.2.2) ⟨hX1, hX2, hXb⟩ ?round ?fin
   case st =>
     rintro i a a' ⟨h1, h2, h3⟩ hb'
     exact ⟨(hb'.block _ (by omega)).trans h1, (hb'.block _ (by omega)).trans h2, h3.trans (hb'.mono (by omega))⟩
   case round =>
     intro i hi a ha hz
     have HO : Hid (PA.orL (fQ qs) ((plc s).take (i + 1)) (0 : Nat) = PA.orL (fQ qs) ((plc s).take i) (0 : Nat) ||| fQ qs (plc s)[i]) := hide (by rw [List.take_succ_eq_append_getElem hi, PA.orL_snoc])
     have hm : PA.orL (fQ qs) ((plc s).take i) (0 : Nat) < 2 ^ 64 := PA.orL_lt _ _ hx0 fun j _ => folQ_lt hq j
     obtain ⟨m, hme⟩ : ∃ m, PA.orL (fQ qs) ((plc s).take i) (0 : Nat) = m := ⟨_, rfl⟩
     obtain ⟨k, hke⟩ : ∃ k, (plc s)[i] = k := ⟨_, rfl⟩
     rw [hme, hke] at HO
     rw [hme] at hm
     rw [hke]
     have HME := hide hme
     clear ha hke hme
     gi_wp2
     refine ⟨trivial, ?_⟩
     rintro a1 ⟨h1, h2, h3⟩ hz1
     rw [HME.out] at h2
     have hT : a1.heap[w.heap.size]? = some (.cells #[.pointer (some ⟨A, 0, none⟩)] 52) ∧ a1.heap[w.heap.size + 1]? = some (.cells #[.int .u64 (m : Int)] 85) := ⟨h1, h2⟩
     have hfl := folQ_lt hq (k : Int)
     have HF : Hid (fQ qs k = folQ qs (k : Int)) := rfl
     clear h1 h2
     gi_wp2
     refine Rst.startR2 5 (fun w' => w'.heap[w.heap.size]? = some (.cells #[.pointer (some ⟨A, 0, none⟩)] 52) ∧ w'.heap[w.heap.size + 1]? = some (.cells #[.int .u64 (m : Int)] 85)) (by kernel_rfl) (by kernel_rfl) (by rintro ⟨_, _, h⟩; exact h) ?_
     refine Rst.take (fun _ _ _ _ _ h => h) 0 _ 18 (.int .u64 (m : Int)) rfl (by kernel_rfl) rfl (by kernel_rfl) (by kernel_rfl) hT (fun w' hw => U.Reg.ld1 rfl rfl (by simp [World.cell?, hw.2]) (Tryz.isAgg85 _)) ?_
     refine Rst.take (fun _ _ _ _ _ h => h) 1 _ 19 (.pointer (some ⟨A, 0, none⟩)) rfl (by kernel_rfl) rfl (by kernel_rfl) (by kernel_rfl) hT (fun w' hw => U.Reg.ld1 rfl rfl (by simp [World.cell?, hw.1]) (Tryz.isAgg52 _)) ?_
     refine Rst.take (fun _ _ _ _ _ h => h) 2 _ 20 (.int .i64 (k : Int)) rfl (by kernel_rfl) rfl (by kernel_rfl) (by kernel_rfl) hT (fun w' hw => U.Reg.mv rfl rfl) ?_
     refine Rst.call 3 _ 21 77 _ _ #[.pointer (some ⟨A, 0, none⟩), .int .i64 (k : Int)] rfl (by kernel_rfl) rfl (by kernel_rfl) (by kernel_rfl) rfl (by kernel_rfl) (by kernel_rfl) (follow_any (hA.later (W := a1.drew) ⟨h3.os, h3.tape, h3.output, h3.size, h3.block⟩) (k : Int)) ?_
     rintro e w5 ⟨rfl, rfl⟩
     refine ⟨_, rfl, hT, ?_⟩
     refine Rst.only 4 _ 22 rfl (by kernel_rfl) rfl (by kernel_rfl) (by kernel_rfl) ⟨.int .u64 ((m ||| folQ qs (k : Int) : Nat) : Int), _, Reg.orU rfl rfl rfl hm hfl rfl, hT, ?_⟩
     refine Rst.last _ rfl (by kernel_rfl) rfl (by kernel_rfl) (by kernel_rfl) ⟨_, U.Reg.st1 rfl rfl rfl (U.cell_at (w := a1.drew) hT.2 rfl) (U.frozen_at (w := a1.drew) hT.2) (.inl ⟨_, _, rfl⟩) (Tryz.sizeOf85 _), ?_⟩
     refine Rst.done (by kernel_rfl) ?_
     have hne : ∀ b, b ≠ w.heap.size + 1 → (a1.drew.setCell ⟨w.heap.size + 1, 0, none⟩ (.int .u64 ((m ||| folQ qs (k : Int) : Nat) : Int))).heap[b]? = a1.heap[b]? := fun b hb => Below.heap_setCell _ _ _ _ hb
     refine ⟨⟨(hne _ (by omega)).trans hT.1, ?_, h3.trans ⟨rfl, rfl, rfl, by simp [World.setCell], fun b hb => hne b (by omega)⟩⟩, fun b hb _ => hne b (by omega), by simp [World.setCell]⟩
     rw [HO.out]
     exact (U.set_at _ hT.2).trans rfl
   case fin =>
     rintro W ⟨_, h2, h3⟩ h4 h5
     rw [List.take_length] at h2
     have c5 : W.cell? ⟨w.heap.size + 1, 0, none⟩ = some (.int .u64 ((PA.orL (fQ qs) (plc s) (0 : Nat) : Nat) : Int)) := by simp [World.cell?, h2]
     have HB := hide h3
     clear h2 h3
     gi_wp2
     refine ⟨by simp, .inl ⟨_, _, rfl, run_takeDeferred h4, ?_⟩⟩
     exact ⟨_, results_tmp rfl _ _ _, rfl, HB.out.trans (below_putL _ _ (by omega))⟩
 · rw [hb] at e5 hx0e
   simp only [if_true] at hx0e
   obtain rfl := hx0e
   gi_wp2_with (refine ⟨trivial, ?_⟩; gi_at_call 43; refine (callsIn_wide.2 (hmk _)).mono ?_; rintro e w2 ⟨rfl, rfl⟩)
   obtain ⟨hX1, hX2, hX3, hXs, hXb⟩ := box3 w (.cells #[.pointer (some ⟨A, 0, none⟩)] 52) (.cells #[.int .u64 (x.f : Int)] 85) (.cells #[.int .u64 (s : Int)] 85)
   obtain ⟨X, hX⟩ : ∃ X, ((w.alloc (.cells #[.pointer (some ⟨A, 0, none⟩)] 52)).alloc (.cells #[.int .u64 (x.f : Int)] 85)).alloc (.cells #[.int .u64 (s : Int)] 85) = X := ⟨_, rfl⟩
   rw [hX] at hX1 hX2 hX3 hXs hXb
   rw [show (((w.alloc (.cells #[.pointer (some ⟨A, 0, none⟩)] 52)).alloc (.cells #[.int .u64 (x.f : Int)] 85)).alloc (.cells #[.int .u64 (s : Int)] 85)) = X from hX]
   clear hX
   have hl := hA.lt
   refine places_range (m := s) (fun i a => a.heap[w.heap.size]? = some (.cells #[.pointer (some ⟨A, 0, none⟩)] 52) ∧ a.heap[w.heap.size + 1]? = some (.cells #[.int .u64 ((PA.orL (fQ qs) ((plc s).take i) x.f : Nat) : Int)] 85) ∧ Below w.heap.size w a) rfl rfl hX3 hs ?st (fun i a h => hd.later h.2.2) ⟨hX1, hX2, hXb⟩ ?round ?fin
   case st =>
     rintro i a a' ⟨h1, h2, h3⟩ hb'
     exact ⟨(hb'.block _ (by omega)).trans h1, (hb'.block _ (by omega)).trans h2, h3.trans (hb'.mono (by omega))⟩
   case round =>
     intro i hi a ha hz
     have HO : Hid (PA.orL (fQ qs) ((plc s).take (i + 1)) x.f = PA.orL (fQ qs) ((plc s).take i) x.f ||| fQ qs (plc s)[i]) := hide (by rw [List.take_succ_eq_append_getElem hi, PA.orL_snoc])
     have hm : PA.orL (fQ qs) ((plc s).take i) x.f < 2 ^ 64 := PA.orL_lt _ _ hx0 fun j _ => folQ_lt hq j
     obtain ⟨m, hme⟩ : ∃ m, PA.orL (fQ qs) ((plc s).take i) x.f = m := ⟨_, rfl⟩
     obtain ⟨k, hke⟩ : ∃ k, (plc s)[i] = k := ⟨_, rfl⟩
     rw [hme, hke] at HO
     rw [hme] at hm
     rw [hke]
     have HME := hide hme
     clear ha hke hme
     gi_wp2
     refine ⟨trivial, ?_⟩
     rintro a1 ⟨h1, h2, h3⟩ hz1
     rw [HME.out] at h2
     have hT : a1.heap[w.heap.size]? = some (.cells #[.pointer (some ⟨A, 0, none⟩)] 52) ∧ a1.heap[w.heap.size + 1]? = some (.cells #[.int .u64 (m : Int)] 85) := ⟨h1, h2⟩
     have hfl := folQ_lt hq (k : Int)
     have HF : Hid (fQ qs k = folQ qs (k : Int)) := rfl
     clear h1 h2
     gi_wp2
     refine Rst.startR2 5 (fun w' => w'.heap[w.heap.size]? = some (.cells #[.pointer (some ⟨A, 0, none⟩)] 52) ∧ w'.heap[w.heap.size + 1]? = some (.cells #[.int .u64 (m : Int)] 85)) (by kernel_rfl) (by kernel_rfl) (by rintro ⟨_, _, h⟩; exact h) ?_
     refine Rst.take (fun _ _ _ _ _ h => h) 0 _ 18 (.int .u64 (m : Int)) rfl (by kernel_rfl) rfl (by kernel_rfl) (by kernel_rfl) hT (fun w' hw => U.Reg.ld1 rfl rfl (by simp [World.cell?, hw.2]) (Tryz.isAgg85 _)) ?_
     refine Rst.take (fun _ _ _ _ _ h => h) 1 _ 19 (.pointer (some ⟨A, 0, none⟩)) rfl (by kernel_rfl) rfl (by kernel_rfl) (by kernel_rfl) hT (fun w' hw => U.Reg.ld1 rfl rfl (by simp [World.cell?, hw.1]) (Tryz.isAgg52 _)) ?_
     refine Rst.take (fun _ _ _ _ _ h => h) 2 _ 20 (.int .i64 (k : Int)) rfl (by kernel_rfl) rfl (by kernel_rfl) (by kernel_rfl) hT (fun w' hw => U.Reg.mv rfl rfl) ?_
     refine Rst.call 3 _ 21 77 _ _ #[.pointer (some ⟨A, 0, none⟩), .int .i64 (k : Int)] rfl (by kernel_rfl) rfl (by kernel_rfl) (by kernel_rfl) rfl (by kernel_rfl) (by kernel_rfl) (follow_any (hA.later (W := a1.drew) ⟨h3.os, h3.tape, h3.output, h3.size, h3.block⟩) (k : Int)) ?_
     rintro e w5 ⟨rfl, rfl⟩
     refine ⟨_, rfl, hT, ?_⟩
     refine Rst.only 4 _ 22 rfl (by kernel_rfl) rfl (by kernel_rfl) (by kernel_rfl) ⟨.int .u64 ((m ||| folQ qs (k : Int) : Nat) : Int), _, Reg.orU rfl rfl rfl hm hfl rfl, hT, ?_⟩
     refine Rst.last _ rfl (by kernel_rfl) rfl (by kernel_rfl) (by kernel_rfl) ⟨_, U.Reg.st1 rfl rfl rfl (U.cell_at (w := a1.drew) hT.2 rfl) (U.frozen_at (w := a1.drew) hT.2) (.inl ⟨_, _, rfl⟩) (Tryz.sizeOf85 _), ?_⟩
     refine Rst.done (by kernel_rfl) ?_
     have hne : ∀ b, b ≠ w.heap.size + 1 → (a1.drew.setCell ⟨w.heap.size + 1, 0, none⟩ (.int .u64 ((m ||| folQ qs (k : Int) : Nat) : Int))).heap[b]? = a1.heap[b]? := fun b hb => Below.heap_setCell _ _ _ _ hb
     refine ⟨⟨(hne _ (by omega)).trans hT.1, ?_, h3.trans ⟨rfl, rfl, rfl, by simp [World.setCell], fun b hb => hne b (by omega)⟩⟩, fun b hb _ => hne b (by omega), by simp [World.setCell]⟩
     rw [HO.out]
     exact (U.set_at _ hT.2).trans rfl
   case fin =>
     rintro W ⟨_, h2, h3⟩ h4 h5
     rw [List.take_length] at h2
     have c5 : W.cell? ⟨w.heap.size + 1, 0, none⟩ = some (.int .u64 ((PA.orL (fQ qs) (plc s) x.f : Nat) : Int)) := by simp [World.cell?, h2]
     have HB := hide h3
     clear h2 h3
     gi_wp2
     refine ⟨by simp, .inl ⟨_, _, rfl, run_takeDeferred h4, ?_⟩⟩
     exact ⟨_, results_tmp rfl _ _ _, rfl, HB.out.trans (below_putL _ _ (by omega))⟩
def gQ (qs : List (PA.Pl × Value)) (r : Int) (i : Nat) : Nat := if (qs[i]?.map fun q => U.S.hB q.1.1 r).getD false then 2 ^ i else 0
theorem gQ_lt (qs : List (PA.Pl × Value)) (r : Int) {i : Nat} (h : i < 64) : gQ qs r i < 2 ^ 64 := by
 unfold gQ
 split
 · exact Nat.pow_lt_pow_right (by decide) h
 · decide
theorem behindM_any {w : World} {B A : Nat} {v : Value} {qs : List (PA.Pl × Value)} {x : PA.En} (hA : AutoW w B A v qs x) (s : Nat) (hs : s < 2 ^ 64) (hx : x.f < 2 ^ 64) (hq : ∀ q ∈ qs, q.1.2 < 2 ^ 64) (hd : Deb w) :
   Calls Tryz.prog 42 #[.pointer (some ⟨A, 0, none⟩), .int .u64 (s : Int)] w fun e W => e = .returned (.int .u64 ((PA.orL (fQ qs) (plc s) (if s.testBit 63 then x.f else 0) : Nat) : Int)) ∧ Below w.heap.size w W := callsIn_wide.1 (behind_in hA s hs hx hq hd)
set_option maxRecDepth 100000 in
set_option maxHeartbeats 4000000 in
theorem step_in {w : World} {B A : Nat} {v : Value} {qs : List (PA.Pl × Value)} {x : PA.En} (hA : AutoW w B A v qs x) (s : Nat) (r : Int) (hs : s < 2 ^ 64) (hx : x.f < 2 ^ qs.length) (hq : ∀ q ∈ qs, q.1.2 < 2 ^ qs.length) (hlen : qs.length ≤ 60) (hsl : ∀ q ∈ qs, q.1.1.length ≤ 1000000) (hd : Deb w) :
   CallsIn Fence.wide 9 Tryz.prog 24 #[.pointer (some ⟨A, 0, none⟩), .int .u64 (s : Int), .int .i32 r] w fun e W => e = .returned (.int .u64 ((PA.orL (gQ qs r) (plc (PA.orL (fQ qs) (plc s) (if s.testBit 63 then x.f else 0))) 0 : Nat) : Int)) ∧ Below w.heap.size w W := by
 have hb0 : PA.orL (fQ qs) (plc s) (if s.testBit 63 then x.f else 0) < 2 ^ qs.length := by
   refine PA.orL_lt _ _ (by split; exact hx; exact Nat.two_pow_pos _) fun i _ => ?_
   unfold fQ folQ
   split
   · cases h : qs[(i : Int).toNat]? with
     | none => exact Nat.two_pow_pos _
     | some q => simpa using hq q (List.mem_of_getElem? h)
   · exact Nat.two_pow_pos _
 have hb64 := PA.up hb0 (show qs.length ≤ 64 by omega)
 have hbe := fun W (h : Below w.heap.size w W) => behindM_any (hA.later h) s hs (PA.up hx (by omega)) (fun q h => PA.up (hq q h) (by omega)) (hd.later h)
 generalize PA.orL (fQ qs) (plc s) (if s.testBit 63 then x.f else 0) = bm at *
 obtain ⟨hX1, hX2, hX3, hXs, hXb⟩ := box3 w (.cells #[.pointer (some ⟨A, 0, none⟩)] 52) (.cells #[.int .i32 r] 21) (.cells #[.int .u64 0] 85)
 obtain ⟨X, hX⟩ : ∃ X, ((w.alloc (.cells #[.pointer (some ⟨A, 0, none⟩)] 52)).alloc (.cells #[.int .i32 r] 21)).alloc (.cells #[.int .u64 0] 85) = X := ⟨_, rfl⟩
 rw [hX] at hX1 hX2 hX3 hXs hXb
 have hbX := hbe X hXb
 have c0 : X.cell? ⟨w.heap.size, 0, none⟩ = some (.pointer (some ⟨A, 0, none⟩)) := by simp [World.cell?, hX1]
 have hmk := fun W => places_make bm W
 clear hbe
 refine callsIn_of_wp_marks Tryz.func24 rfl trivial ?_ rfl
 simp only [Tryz.ntmps24, List.size_toArray, List.length_cons, List.length_nil, Nat.reduceAdd, Nat.reduceSub, Array.replicate_succ, Array.replicate_zero, List.push_toArray, List.append_toArray, List.nil_append, List.cons_append]
 gi_wp2_with fail
 refine ⟨trivial, (callsIn_wide.2 hbX).mono ?_⟩
 rintro e W1 ⟨rfl, hb1⟩
 have B1 := nx hXb hb1
 have m1 := (hb1.block _ (by omega)).trans hX1
 have m2 := (hb1.block _ (by omega)).trans hX2
 have m3 := (hb1.block _ (by omega)).trans hX3
 have z1 : w.heap.size + 3 ≤ W1.heap.size := by have := hb1.size; omega
 clear hbX hb1 hX1 hX2 hX3 hXs hXb c0 hX
 gi_wp2_with fail
 refine ⟨trivial, (callsIn_wide.2 (hmk _)).mono ?_⟩
 rintro e W2 ⟨rfl, rfl⟩
 have a2 := al1 W1 (.cells #[.int .u64 (bm : Int)] 85)
 have n2 := heap_alloc_new W1 (.cells #[.int .u64 (bm : Int)] 85)
 have s2 : (W1.alloc (.cells #[.int .u64 (bm : Int)] 85)).heap.size = W1.heap.size + 1 := by simp
 obtain ⟨W2, hW2⟩ : ∃ W2, W1.alloc (.cells #[.int .u64 (bm : Int)] 85) = W2 := ⟨_, rfl⟩
 rw [hW2] at a2 n2 s2 ⊢
 have B2 := nx B1 a2
 have k1 := (a2.block _ (by omega)).trans m1
 have k2 := (a2.block _ (by omega)).trans m2
 have k3 := (a2.block _ (by omega)).trans m3
 clear hmk hW2 a2 m1 m2 m3 B1
 gi_wp2
 have hl := hA.lt
 refine places_range (m := bm) (fun i a => a.heap[w.heap.size]? = some (.cells #[.pointer (some ⟨A, 0, none⟩)] 52) ∧ a.heap[w.heap.size + 1]? = some (.cells #[.int .i32 r] 21) ∧ a.heap[w.heap.size + 2]? = some (.cells #[.int .u64 ((PA.orL (gQ qs r) ((plc bm).take i) 0 : Nat) : Int)] 85) ∧ Below w.heap.size w a) rfl rfl n2 hb64 ?st (fun i a h => hd.later h.2.2.2) ⟨k1, k2, k3, B2⟩ ?round ?fin
 case st =>
   rintro i a a' ⟨h1, h2, h3, h4⟩ hb'
   exact ⟨(hb'.block _ (by omega)).trans h1, (hb'.block _ (by omega)).trans h2, (hb'.block _ (by omega)).trans h3, h4.trans (hb'.mono (by omega))⟩
 case round =>
   intro i hi a ha hz
   have hp := mem_plc.1 (List.getElem_mem hi)
   have hk : (plc bm)[i] < qs.length := PA.bits_low hb0 _ (PA.mem_bits.2 ⟨by omega, hp.2⟩)
   have HO : Hid (PA.orL (gQ qs r) ((plc bm).take (i + 1)) 0 = PA.orL (gQ qs r) ((plc bm).take i) 0 ||| gQ qs r (plc bm)[i]) := hide (by rw [List.take_succ_eq_append_getElem hi, PA.orL_snoc])
   have hm : PA.orL (gQ qs r) ((plc bm).take i) 0 < 2 ^ 64 := PA.orL_lt _ _ (by decide) fun j hj => gQ_lt qs r (by have := mem_plc.1 (List.mem_of_mem_take hj); omega)
   obtain ⟨m, hme⟩ : ∃ m, PA.orL (gQ qs r) ((plc bm).take i) 0 = m := ⟨_, rfl⟩
   obtain ⟨k, hke⟩ : ∃ k, (plc bm)[i] = k := ⟨_, rfl⟩
   rw [hme, hke] at HO
   rw [hme] at hm
   rw [hke] at hk ⊢
   have HME := hide hme
   clear ha hke hme hp
   gi_wp2
   refine ⟨trivial, ?_⟩
   rintro a1 ⟨h1, h2, h3, h4⟩ hz1
   rw [HME.out] at h3
   have hAa := hA.later h4
   obtain ⟨g, cap, rfl, d0, _⟩ := hAa.row k hk
   obtain ⟨so, sc, hsv, _, _, hrd⟩ := (hAa.set qs[k] (List.getElem_mem hk)).rd
   have hsle := hsl qs[k] (List.getElem_mem hk)
   have HG : Hid (gQ qs r k = if U.S.hB qs[k].1.1 r then 2 ^ k else 0) := hide (by unfold gQ; simp [hk])
   rw [hsv] at d0
   obtain ⟨xs, hxs⟩ : ∃ xs, qs[k].1.1 = xs := ⟨_, rfl⟩
   rw [hxs] at d0 hrd hsle HG
   have c0 := hAa.cells.1
   have hgl : g < a1.heap.size := U.cell_lt d0
   have hAl : A < a1.heap.size := U.cell_lt c0
   have hl1 : w.heap.size + 3 ≤ a1.heap.size := by omega
   have hS1 : ∀ w', Below a1.heap.size a1 w' → w'.heap[w.heap.size]? = some (.cells #[.pointer (some ⟨A, 0, none⟩)] 52) := fun w' hb => (hb.block _ (by omega)).trans h1
   have hS2 : ∀ w', Below a1.heap.size a1 w' → w'.heap[w.heap.size + 1]? = some (.cells #[.int .i32 r] 21) := fun w' hb => (hb.block _ (by omega)).trans h2
   have hS3 : ∀ w', Below a1.heap.size a1 w' → w'.cell? ⟨A, 0, none⟩ = some (.slice (some ⟨g, 0, none⟩) qs.length cap) := fun w' hb => cell_later hb c0
   have hS4 : ∀ w', Below a1.heap.size a1 w' → w'.cell? ⟨g, k * 2, none⟩ = some (.slice so xs.length sc) := fun w' hb => cell_later hb d0
   clear hxs hsv c0 d0 hAa
   have hhas := U.has_any so sc xs r hsle a1.drew (hrd.later ⟨rfl, rfl, rfl, Nat.le_refl _, fun _ _ => rfl⟩)
   obtain ⟨hb, hbe⟩ : ∃ hb, U.S.hB xs r = hb := ⟨_, rfl⟩
   rw [hbe] at hhas HG
   clear hbe
   gi_wp2
   refine U.Reg.startR (B := a1.heap.size) (by kernel_rfl) (by kernel_rfl) (by rintro ⟨_, _, h⟩; exact h) ?_
   refine U.Reg.take (fun _ _ _ _ _ h => h) 0 _ 14 (.pointer (some ⟨A, 0, none⟩)) rfl (by kernel_rfl) (by kernel_rfl) (by kernel_rfl) rfl (by kernel_rfl) (by kernel_rfl) (fun w' hw => U.Reg.ld1 rfl rfl (U.cell_at (hS1 w' (bdrew hw)) rfl) (Tryz.isAgg52 _)) ?_
   refine U.Reg.take (fun _ _ _ _ _ h => h) 1 _ 15 (.pointer (some ⟨A, 0, none⟩)) rfl (by kernel_rfl) (by kernel_rfl) (by kernel_rfl) rfl (by kernel_rfl) (by kernel_rfl) (fun w' hw => U.Reg.nc rfl rfl) ?_
   refine U.Reg.take (fun _ _ _ _ _ h => h) 2 _ 16 (.pointer (some ⟨A, 0 + 0, none⟩)) rfl (by kernel_rfl) (by kernel_rfl) (by kernel_rfl) rfl (by kernel_rfl) (by kernel_rfl) (fun w' hw => Reg.faG rfl (.inl ⟨rfl, .inl rfl⟩) rfl) ?_
   refine U.Reg.take (fun _ _ _ _ _ h => h) 3 _ 17 (.slice (some ⟨g, 0, none⟩) qs.length cap) rfl (by kernel_rfl) (by kernel_rfl) (by kernel_rfl) rfl (by kernel_rfl) (by kernel_rfl) (fun w' hw => U.Reg.ld1 rfl rfl (hS3 w' (bdrew hw)) (Tryz.isAgg84 _)) ?_
   refine U.Reg.take (fun _ _ _ _ _ h => h) 4 _ 18 (.int .i64 (k : Int)) rfl (by kernel_rfl) (by kernel_rfl) (by kernel_rfl) rfl (by kernel_rfl) (by kernel_rfl) (fun w' hw => U.Reg.mv rfl rfl) ?_
   refine U.Reg.take (fun _ _ _ _ _ h => h) 5 _ 19 (.pointer (some ⟨g, 0 + k * 2, none⟩)) rfl (by kernel_rfl) (by kernel_rfl) (by kernel_rfl) rfl (by kernel_rfl) (by kernel_rfl) (fun w' hw => U.Reg.ix rfl rfl rfl hk Tryz.underlying84 (elemSize84 _)) ?_
   refine U.Reg.take (fun _ _ _ _ _ h => h) 6 _ 20 (.pointer (some ⟨g, 0 + k * 2 + 0, none⟩)) rfl (by kernel_rfl) (by kernel_rfl) (by kernel_rfl) rfl (by kernel_rfl) (by kernel_rfl) (fun w' hw => Reg.faG rfl (.inr (.inl ⟨rfl, .inl rfl⟩)) rfl) ?_
   refine U.Reg.take (fun _ _ _ _ _ h => h) 7 _ 21 (.slice so xs.length sc) rfl (by kernel_rfl) (by kernel_rfl) (by kernel_rfl) rfl (by kernel_rfl) (by kernel_rfl) (fun w' hw => U.Reg.ld1 rfl rfl (by rw [Nat.zero_add]; exact hS4 w' (bdrew hw)) (Tryz.isAgg22 _)) ?_
   refine U.Reg.take (fun _ _ _ _ _ h => h) 8 _ 22 (.int .i32 r) rfl (by kernel_rfl) (by kernel_rfl) (by kernel_rfl) rfl (by kernel_rfl) (by kernel_rfl) (fun w' hw => U.Reg.ld1 rfl rfl (U.cell_at (hS2 w' (bdrew hw)) rfl) (Tryz.isAgg21 _)) ?_
   refine U.Reg.call 9 _ 23 44 _ _ #[.slice so xs.length sc, .int .i32 r] rfl (by kernel_rfl) rfl (by kernel_rfl) (by kernel_rfl) rfl (by kernel_rfl) (by kernel_rfl) hhas ?_
   rintro e W5 ⟨rfl, hb5⟩
   have hb5' : Below a1.heap.size a1 W5 := ⟨hb5.os, hb5.tape, hb5.output, hb5.size, hb5.block⟩
   refine ⟨_, a1.heap.size, rfl, Nat.le_refl _, hb5, ?_⟩
   refine U.Reg.done (by kernel_rfl) ?_
   simp only [U.Reg.ov, Act.put, List.setIfInBounds_toArray, List.set_cons_succ, List.set_cons_zero]
   have r1 := hS1 W5 hb5'
   have r2 := hS2 W5 hb5'
   have r3 := (hb5'.block _ (by omega)).trans h3
   have B5 := h4.trans (hb5'.mono (by omega))
   have z5 : a1.heap.size ≤ W5.heap.size := hb5'.size
   have HK5 := hide (fun (b : Nat) (hb : b < a1.heap.size) => hb5'.block b hb)
   clear hS1 hS2 hS3 hS4 hhas hb5 hb5' h1 h2 h3
   cases hb with
   | false =>
     have HG2 : Hid (gQ qs r k = 0) := hide (by rw [HG.out]; rfl)
     gi_wp2
     refine ⟨⟨r1, r2, ?_, B5⟩, fun b hb hb2 => HK5.out b hb2, z5⟩
     rw [HO.out, HG2.out, Nat.or_zero]
     exact r3
   | true =>
     have HG2 : Hid (gQ qs r k = 2 ^ k) := hide (by rw [HG.out]; rfl)
     have hT : W5.heap[w.heap.size + 2]? = some (.cells #[.int .u64 (m : Int)] 85) := r3
     have hpk : 2 ^ k < 2 ^ 64 := Nat.pow_lt_pow_right (by decide) (by omega)
     gi_wp2
     refine Rst.startR2 4 (fun w' => w'.heap[w.heap.size + 2]? = some (.cells #[.int .u64 (m : Int)] 85)) (by kernel_rfl) (by kernel_rfl) (by rintro ⟨_, _, h⟩; exact h) ?_
     refine Rst.take (fun _ _ _ _ _ h => h) 0 _ 24 (.int .u64 (m : Int)) rfl (by kernel_rfl) rfl (by kernel_rfl) (by kernel_rfl) hT (fun w' hw => U.Reg.ld1 rfl rfl (U.cell_at hw rfl) (Tryz.isAgg85 _)) ?_
     refine Rst.take (fun _ _ _ _ _ h => h) 1 _ 25 (.int .i64 (k : Int)) rfl (by kernel_rfl) rfl (by kernel_rfl) (by kernel_rfl) hT (fun w' hw => U.Reg.mv rfl rfl) ?_
     refine Rst.call 2 _ 26 45 _ _ #[.int .i64 (k : Int)] rfl (by kernel_rfl) rfl (by kernel_rfl) (by kernel_rfl) rfl (by kernel_rfl) (by kernel_rfl) (only_any k (by omega) W5.drew) ?_
     rintro e w6 ⟨rfl, rfl⟩
     refine ⟨_, rfl, hT, ?_⟩
     refine Rst.only 3 _ 27 rfl (by kernel_rfl) rfl (by kernel_rfl) (by kernel_rfl) ⟨.int .u64 ((m ||| 2 ^ k : Nat) : Int), _, Reg.orU rfl rfl rfl hm hpk rfl, hT, ?_⟩
     refine Rst.last _ rfl (by kernel_rfl) rfl (by kernel_rfl) (by kernel_rfl) ⟨_, U.Reg.st1 rfl rfl rfl (U.cell_at (w := W5.drew) hT rfl) (U.frozen_at (w := W5.drew) hT) (.inl ⟨_, _, rfl⟩) (Tryz.sizeOf85 _), ?_⟩
     refine Rst.done (by kernel_rfl) ?_
     have hne : ∀ b, b ≠ w.heap.size + 2 → (W5.drew.setCell ⟨w.heap.size + 2, 0, none⟩ (.int .u64 ((m ||| 2 ^ k : Nat) : Int))).heap[b]? = W5.heap[b]? := fun b hb => Below.heap_setCell _ _ _ _ hb
     refine ⟨⟨(hne _ (by omega)).trans r1, (hne _ (by omega)).trans r2, ?_, B5.trans ⟨rfl, rfl, rfl, by simp [World.setCell], fun b hb => hne b (by omega)⟩⟩, fun b hb hb2 => (hne b (by omega)).trans (HK5.out b hb2), by simp [World.setCell]; exact z5⟩
     rw [HO.out, HG2.out]
     exact (U.set_at _ hT).trans rfl
 case fin =>
   rintro W ⟨_, _, h2, h3⟩ h4 h5
   rw [List.take_length] at h2
   have c5 : W.cell? ⟨w.heap.size + 2, 0, none⟩ = some (.int .u64 ((PA.orL (gQ qs r) (plc bm) 0 : Nat) : Int)) := by simp [World.cell?, h2]
   have HB := hide h3
   clear h2 h3
   gi_wp2
   refine ⟨by simp, .inl ⟨_, _, rfl, run_takeDeferred h4, ?_⟩⟩
   exact ⟨_, results_tmp rfl _ _ _, rfl, HB.out.trans (below_putL _ _ (by omega))⟩
end Go.Proofs.YtgngaldoemopjaaGreatDoor
