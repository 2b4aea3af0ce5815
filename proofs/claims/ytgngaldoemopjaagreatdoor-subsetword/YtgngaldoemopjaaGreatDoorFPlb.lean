/- Joined: Plb. -/
import Derived.Test.YtgngaldoemopjaaGreatDoorFPla
import Derived.Test.YtgngaldoemopjaaGreatDoorFPsp
import Derived.Shelf.Spec.TrailingZeros
import Derived.Laws.Bits64b
namespace Go.Proofs.YtgngaldoemopjaaGreatDoor
open Go.RowKit Go.Shelf
attribute [local go_sem] Oper.semAt_some
def Deb (w : World) : Prop := TabAt 0 Lib.deBruijn64tab w
theorem Deb.later {w wx : World} (h : Deb w) (hb : Below w.heap.size w wx) : Deb wx := fun j hj => cell_later hb (h j hj)
set_option maxHeartbeats 1000000 in
theorem tz_core (x k idx : Nat) (w : World) (hx0 : ((x : Int) == 0) = false)
   (key : IntKind.u64.wrap (bits BinOp.and IntKind.u64 (x : Int) (IntKind.u64.wrap (-(x : Int))) * 285870213051353865) / 288230376151711744 = (idx : Int))
   (hi : idx < 64) (hcell : w.cell? ⟨0, idx, none⟩ = some (.int .u8 k)) (hk : k < 64) : Calls Tryz.prog 79 #[.int .u64 (x : Int)] w fun e w' => e = .returned (.int .i64 (k : Int)) ∧ w' = w := by
 go_enter Tryz.func79, Tryz.ntmps79
 go_wp2_with (simp only [key])
 go_ret
 exact ⟨rfl, rfl⟩
theorem tz_any (x : Nat) (hx : x < 2 ^ 64) (h0 : x ≠ 0) (w : World) (hd : Deb w) : Calls Tryz.prog 79 #[.int .u64 (x : Int)] w fun e w' => e = .returned (.int .i64 (Lib.ctz 64 x : Int)) ∧ w' = w := by
 obtain ⟨hlow, hk⟩ := Lib.lowest_bit 64 x h0 hx
 obtain ⟨hi, htab⟩ := Lib.deBruijn64_at _ hk
 have hcell := hd _ hi
 rw [htab] at hcell
 exact tz_core x _ _ w (by simp [h0]) (tz64_key x _ hx h0 hlow) hi hcell hk
theorem wrapU {n : Nat} (h : n < 2 ^ 64) : IntKind.u64.wrap (n : Int) = (n : Int) := by rw [IntKind.wrap_u64]; omega
set_option maxHeartbeats 1000000 in
theorem only_any (i : Nat) (hi : i < 64) (w : World) : Calls Tryz.prog 45 #[.int .i64 (i : Int)] w fun e w' => e = .returned (.int .u64 ((2 ^ i : Nat) : Int)) ∧ w' = w := by
 have hw : IntKind.u64.wrap (2 ^ i) = ((2 ^ i : Nat) : Int) := by
   have := wrapU (n := 2 ^ i) (Nat.pow_lt_pow_right (by decide) hi)
   rw [← this]
   congr 1
 generalize ((2 ^ i : Nat) : Int) = z at *
 go_enter Tryz.func45, Tryz.ntmps45
 go_wp2_with (simp only [hw])
 go_ret
 exact ⟨rfl, rfl⟩
def encE (x : PA.En) : Value := .agg #[.int .u64 (x.f : Int), .int .u64 (x.l : Int), .bool x.n]
theorem bl_alloc {n : Nat} {a b : World} (h : Below n a b) (hn : n ≤ b.heap.size) (o : Obj) : Below n a (b.alloc o) := h.trans ((al1 b o).mono hn)
theorem bl_set {n : Nat} {a b : World} (h : Below n a b) {p : Addr} (hp : n ≤ p.block) (v : Value) : Below n a (b.setCell p v) :=
 h.trans ⟨rfl, rfl, rfl, by simp [World.setCell], fun k hk => Below.heap_setCell _ _ _ _ (by omega)⟩
set_option maxHeartbeats 1000000 in
theorem empty_any (w : World) : Calls Tryz.prog 68 #[] w fun e w' => e = .returned (encE PA.none) ∧ Below w.heap.size w w' := by
 go_enter Tryz.func68, Tryz.ntmps68
 go_wp2
 exact bodyPost_ret (v := encE PA.none) (by simp [results, Tryz.results68, go_sem, encE, PA.none]) rfl ⟨rfl, al1 w _⟩
set_option maxHeartbeats 1000000 in
theorem or_any (x y : PA.En) (h1 : x.f < 2 ^ 64) (h2 : x.l < 2 ^ 64) (h3 : y.f < 2 ^ 64) (h4 : y.l < 2 ^ 64) (w : World) : Calls Tryz.prog 66 #[encE x, encE y] w fun e w' => e = .returned (encE (PA.or x y)) ∧ Below w.heap.size w w' := by
 obtain ⟨xf, xl, xn⟩ := x
 obtain ⟨yf, yl, yn⟩ := y
 have e1 := bits_or_u64_nat xf yf h1 h3
 have e2 := bits_or_u64_nat xl yl h2 h4
 unfold encE PA.or
 dsimp only
 generalize xf ||| yf = zf at *
 generalize xl ||| yl = zl at *
 clear h1 h2 h3 h4
 cases xn
 · go_enter Tryz.func66, Tryz.ntmps66
   go_wp2
   exact bodyPost_ret (v := .agg #[.int .u64 (zf : Int), .int .u64 (zl : Int), .bool yn]) (by simp [results, Tryz.results66, go_sem]) rfl ⟨rfl, bl_alloc (bl_alloc (al1 w _) (by simp) _) (by simp; omega) _⟩
 · go_enter Tryz.func66, Tryz.ntmps66
   go_wp2
   exact bodyPost_ret (v := .agg #[.int .u64 (zf : Int), .int .u64 (zl : Int), .bool true]) (by simp [results, Tryz.results66, go_sem]) rfl ⟨rfl, bl_alloc (bl_alloc (al1 w _) (by simp) _) (by simp; omega) _⟩
set_option maxHeartbeats 2000000 in
theorem ahead_any (x y : PA.En) (h1 : x.f < 2 ^ 64) (h2 : x.l < 2 ^ 64) (h3 : y.f < 2 ^ 64) (h4 : y.l < 2 ^ 64) (w : World) : Calls Tryz.prog 65 #[encE x, encE y] w fun e w' => e = .returned (encE (PA.ahead x y)) ∧ Below w.heap.size w w' := by
 obtain ⟨xf, xl, xn⟩ := x
 obtain ⟨yf, yl, yn⟩ := y
 have e1 := bits_or_u64_nat xf yf h1 h3
 have e2 := bits_or_u64_nat yl xl h4 h2
 unfold encE PA.ahead
 dsimp only
 generalize xf ||| yf = zf at *
 generalize yl ||| xl = zl at *
 clear h1 h2 h3 h4
 cases xn <;> cases yn
 all_goals
   go_enter Tryz.func65, Tryz.ntmps65
   go_wp2
   exact bodyPost_ret (v := .agg #[_, _, _]) (by simp [results, Tryz.results65, go_sem]) rfl ⟨rfl, bl_alloc (bl_alloc (bl_alloc (al1 w _) (by simp) _) (by simp; omega) _) (by simp; omega) _⟩
def cP : List (PA.Pl × Value) → List Value
 | [] => []
 | q :: qs => q.2 :: .int .u64 (q.1.2 : Int) :: cP qs
theorem cP_get : ∀ (qs : List (PA.Pl × Value)) (i : Nat) (h : i < qs.length), (cP qs)[i * 2]? = some qs[i].2 ∧ (cP qs)[i * 2 + 1]? = some (.int .u64 (qs[i].1.2 : Int))
 | q :: qs, 0, _ => ⟨rfl, rfl⟩
 | q :: qs, i + 1, h => by
   have := cP_get qs i (by simpa using h)
   rw [cP, show (i + 1) * 2 = i * 2 + 1 + 1 by omega]
   exact ⟨by rw [List.getElem?_cons_succ, List.getElem?_cons_succ]; exact this.1, by rw [List.getElem?_cons_succ, List.getElem?_cons_succ]; exact this.2⟩
theorem cP_append : ∀ qs rs, cP (qs ++ rs) = cP qs ++ cP rs
 | [], _ => rfl
 | q :: qs, rs => by rw [List.cons_append, cP, cP, cP_append qs rs]; rfl
structure AutoW (w : World) (B A : Nat) (v : Value) (qs : List (PA.Pl × Value)) (x : PA.En) : Prop where
 box : w.heap[A]? = some (.cells #[v, .int .u64 (x.f : Int), .int .u64 (x.l : Int), .bool x.n] 89)
 own : w.ownsRow B 104 2 v qs.length (cP qs)
 set : ∀ q ∈ qs, U.OwnR w B 140 q.2 q.1.1
 le : B ≤ A
section
variable {w : World} {B A : Nat} {v : Value} {qs : List (PA.Pl × Value)} {x : PA.En}
theorem AutoW.sl (h : AutoW w B A v qs x) : ∃ ao cap, v = .slice ao qs.length cap := by
 obtain ⟨_, ⟨rfl, h0⟩ | ⟨g, cap, _, rfl, _⟩⟩ := h.own
 · exact ⟨none, 0, by rw [h0]⟩
 · exact ⟨_, _, rfl⟩
theorem AutoW.row (h : AutoW w B A v qs x) (i : Nat) (hi : i < qs.length) : ∃ g cap, v = .slice (some ⟨g, 0, none⟩) qs.length cap ∧ w.cell? ⟨g, i * 2, none⟩ = some qs[i].2 ∧ w.cell? ⟨g, i * 2 + 1, none⟩ = some (.int .u64 (qs[i].1.2 : Int)) := by
 have ho := h.own
 obtain ⟨_, ⟨rfl, h0⟩ | ⟨g, cap, cur, rfl, _⟩⟩ := ho
 · omega
 · have hc := h.own.cells (g := g) rfl
   have := cP_get qs i hi
   refine ⟨g, cap, rfl, ?_, ?_⟩
   · have := hc _ _ this.1
     rwa [Addr.add_mid, Nat.zero_add] at this
   · have := hc _ _ this.2
     rwa [Addr.add_mid, Nat.zero_add] at this
theorem AutoW.cells (h : AutoW w B A v qs x) : w.cell? ⟨A, 0, none⟩ = some v ∧ w.cell? ⟨A, 1, none⟩ = some (.int .u64 (x.f : Int)) ∧ w.cell? ⟨A, 2, none⟩ = some (.int .u64 (x.l : Int)) ∧ w.cell? ⟨A, 3, none⟩ = some (.bool x.n) := by simp [World.cell?, h.box]
end
theorem elemSize84 (w : World) : (sizeOf (Tryz.prog.elem 84)).run Tryz.prog w = .ok 2 w := by kernel_rfl
section
variable {w : World} {B A : Nat} {v : Value} {qs : List (PA.Pl × Value)} {x : PA.En}
set_option maxHeartbeats 1000000 in
theorem len_any (h : AutoW w B A v qs x) : Calls Tryz.prog 70 #[.pointer (some ⟨A, 0, none⟩)] w fun e w' => e = .returned (.int .i64 (qs.length : Int)) ∧ w' = w := by
 obtain ⟨c0, _, _, _⟩ := h.cells
 obtain ⟨ao, cap, rfl⟩ := h.sl
 go_enter Tryz.func70, Tryz.ntmps70
 go_wp2
 go_ret
 exact ⟨rfl, rfl⟩
set_option maxHeartbeats 1000000 in
theorem first_any (h : AutoW w B A v qs x) : Calls Tryz.prog 134 #[.pointer (some ⟨A, 0, none⟩)] w fun e w' => e = .returned (.int .u64 (x.f : Int)) ∧ w' = w := by
 obtain ⟨_, c1, _, _⟩ := h.cells
 go_enter Tryz.func134, Tryz.ntmps134
 go_wp2
 go_ret
 exact ⟨rfl, rfl⟩
set_option maxHeartbeats 1000000 in
theorem isPlace_any (h : AutoW w B A v qs x) (i : Int) : Calls Tryz.prog 100 #[.pointer (some ⟨A, 0, none⟩), .int .i64 i] w fun e w' => e = .returned (.bool (decide (0 ≤ i) && decide (i < qs.length))) ∧ w' = w := by
 obtain ⟨c0, _, _, _⟩ := h.cells
 obtain ⟨ao, cap, rfl⟩ := h.sl
 by_cases hi : 0 ≤ i
 · go_enter Tryz.func100, Tryz.ntmps100
   go_wp2
   go_ret
   exact ⟨by simp [hi], rfl⟩
 · go_enter Tryz.func100, Tryz.ntmps100
   go_wp2
   go_ret
   exact ⟨by rw [decide_eq_false (show ¬ 0 ≤ i by omega)]; rfl, rfl⟩
def folQ (qs : List (PA.Pl × Value)) (i : Int) : Nat := if 0 ≤ i ∧ i < qs.length then (qs[i.toNat]?.map (·.1.2)).getD 0 else 0
set_option maxHeartbeats 1000000 in
theorem follow_any (h : AutoW w B A v qs x) (i : Int) : Calls Tryz.prog 77 #[.pointer (some ⟨A, 0, none⟩), .int .i64 i] w fun e w' => e = .returned (.int .u64 (folQ qs i : Int)) ∧ w' = w := by
 have hp := isPlace_any h i
 obtain ⟨c0, _, _, _⟩ := h.cells
 by_cases hi : 0 ≤ i ∧ i < qs.length
 · obtain ⟨k, rfl⟩ := Int.eq_ofNat_of_zero_le hi.1
   have hk : k < qs.length := by omega
   obtain ⟨g, cap, rfl, d0, d1⟩ := h.row k hk
   rw [show (decide (0 ≤ (k : Int)) && decide ((k : Int) < qs.length)) = true by simp [hi.2]] at hp
   have hf : folQ qs (k : Int) = qs[k].1.2 := by unfold folQ; rw [if_pos hi]; simp [hk]
   rw [hf]
   have es := elemSize84
   generalize qs[k].1.2 = f at *
   clear hf hi
   go_enter Tryz.func77, Tryz.ntmps77
   go_wp2_with fail
   refine hp.mono ?_
   rintro e w1 ⟨rfl, rfl⟩
   go_wp2
   go_ret
   exact ⟨rfl, rfl⟩
 · rw [show (decide (0 ≤ i) && decide (i < qs.length)) = false by rw [Bool.eq_false_iff]; simpa using hi] at hp
   have hf : folQ qs i = 0 := by unfold folQ; rw [if_neg hi]
   rw [hf]
   clear hf hi
   go_enter Tryz.func77, Tryz.ntmps77
   go_wp2_with fail
   refine hp.mono ?_
   rintro e w1 ⟨rfl, rfl⟩
   go_wp2
   go_ret
   exact ⟨rfl, rfl⟩
set_option maxHeartbeats 2000000 in
theorem accept_any (h : AutoW w B A v qs x) (hl : x.l < 2 ^ 64) (s : Nat) (hs : s < 2 ^ 64) : Calls Tryz.prog 25 #[.pointer (some ⟨A, 0, none⟩), .int .u64 (s : Int)] w fun e w' => e = .returned (.bool (decide (s &&& x.l ≠ 0) || (s.testBit 63 && x.n))) ∧ w' = w := by
 obtain ⟨_, _, c2, c3⟩ := h.cells
 have e1 := bits_and_u64_nat s x.l hs hl
 have e2 : bits .and .u64 (s : Int) 9223372036854775808 = ((s &&& 9223372036854775808 : Nat) : Int) := bits_and_u64_nat s 9223372036854775808 hs (by decide)
 have e3 : (s &&& 9223372036854775808 ≠ 0) ↔ s.testBit 63 = true := PA.bg_bit s
 have e4 : (((s &&& x.l : Nat) : Int) != 0) = decide (s &&& x.l ≠ 0) := by
   rw [Bool.eq_iff_iff]; simp
 have e5 : (((s &&& 9223372036854775808 : Nat) : Int) != 0) = s.testBit 63 := by
   rw [Bool.eq_iff_iff, ← e3]; simp
 generalize s &&& x.l = p at *
 generalize s &&& 9223372036854775808 = q at *
 generalize decide (p ≠ 0) = b at *
 generalize s.testBit 63 = c at *
 generalize x.n = d at *
 clear h e3 hs hl
 cases b <;> cases c
 all_goals
   go_enter Tryz.func25, Tryz.ntmps25
   go_wp2
   go_ret
   exact ⟨by simp, rfl⟩
end
end Go.Proofs.YtgngaldoemopjaaGreatDoor
