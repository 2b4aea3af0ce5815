/- The walk of CrcFinds: it answers true whatever the bytes, the place and what they are turned by; nothing that was there has turned. -/
import Derived.Test.YtnkdlnphmfbagaaDoorFour
import Derived.Test.YtnkdlnphmfbagaaDoorParts
import Derived.Test.YtnkdlnphmfbagaaDoorApp
import Derived.Deep.AppendLies
import Derived.Laws.StructEq
import Derived.ChangeKeysEq
namespace Go.Proofs.YtnkdlnphmfbagaaDoor
open Go.RowKit
namespace M
/-- The first j bytes from place k on, turned by ys. -/
def turn (bs : List UInt8) (k : Nat) (ys : List UInt8) : Nat → List UInt8
  | 0 => bs
  | j + 1 => (turn bs k ys j).set (k + j) ((turn bs k ys j).getD (k + j) 0 ^^^ ys.getD j 0)
theorem turn_length (bs : List UInt8) (k : Nat) (ys : List UInt8) : ∀ j, (turn bs k ys j).length = bs.length
  | 0 => rfl
  | j + 1 => by rw [turn, List.length_set, turn_length bs k ys j]
theorem set_at (p l : List UInt8) (b c : UInt8) : (p ++ b :: l).set p.length c = p ++ c :: l := by
  induction p with
  | nil => rfl
  | cons x p ih => simp
theorem get_at (p l : List UInt8) (b : UInt8) : (p ++ b :: l).getD p.length 0 = b := by simp
theorem turn_four (p s : List UInt8) (b0 b1 b2 b3 y0 y1 y2 y3 : UInt8) :
    turn (p ++ b0 :: b1 :: b2 :: b3 :: s) p.length [y0, y1, y2, y3] 4 = p ++ (b0 ^^^ y0) :: (b1 ^^^ y1) :: (b2 ^^^ y2) :: (b3 ^^^ y3) :: s := by
  have e1 : turn (p ++ b0 :: b1 :: b2 :: b3 :: s) p.length [y0, y1, y2, y3] 1 = p ++ (b0 ^^^ y0) :: b1 :: b2 :: b3 :: s := by
    rw [turn, turn, Nat.add_zero, get_at, set_at]; rfl
  have e2 : turn (p ++ b0 :: b1 :: b2 :: b3 :: s) p.length [y0, y1, y2, y3] 2 = p ++ (b0 ^^^ y0) :: (b1 ^^^ y1) :: b2 :: b3 :: s := by
    rw [turn, e1]
    have := set_at (p ++ [b0 ^^^ y0]) (b2 :: b3 :: s) b1 (b1 ^^^ y1)
    have g := get_at (p ++ [b0 ^^^ y0]) (b2 :: b3 :: s) b1
    simp only [List.length_append, List.length_cons, List.length_nil, List.append_assoc, List.cons_append, List.nil_append, Nat.zero_add] at this g
    rw [g]
    exact this
  have e3 : turn (p ++ b0 :: b1 :: b2 :: b3 :: s) p.length [y0, y1, y2, y3] 3 = p ++ (b0 ^^^ y0) :: (b1 ^^^ y1) :: (b2 ^^^ y2) :: b3 :: s := by
    rw [turn, e2]
    have := set_at (p ++ [b0 ^^^ y0, b1 ^^^ y1]) (b3 :: s) b2 (b2 ^^^ y2)
    have g := get_at (p ++ [b0 ^^^ y0, b1 ^^^ y1]) (b3 :: s) b2
    simp only [List.length_append, List.length_cons, List.length_nil, List.append_assoc, List.cons_append, List.nil_append, Nat.zero_add] at this g
    rw [g]
    exact this
  rw [turn, e3]
  have := set_at (p ++ [b0 ^^^ y0, b1 ^^^ y1, b2 ^^^ y2]) s b3 (b3 ^^^ y3)
  have g := get_at (p ++ [b0 ^^^ y0, b1 ^^^ y1, b2 ^^^ y2]) s b3
  simp only [List.length_append, List.length_cons, List.length_nil, List.append_assoc, List.cons_append, List.nil_append, Nat.zero_add] at this g
  rw [g]
  exact this
theorem four_at (bs : List UInt8) (k : Nat) (h : k + 4 ≤ bs.length) : ∃ p b0 b1 b2 b3 s, bs = p ++ b0 :: b1 :: b2 :: b3 :: s ∧ p.length = k := by
  refine ⟨bs.take k, bs[k], bs[k + 1], bs[k + 2], bs[k + 3], bs.drop (k + 4), ?_, by rw [List.length_take]; omega⟩
  rw [← List.drop_eq_getElem_cons (by omega), ← List.drop_eq_getElem_cons (by omega), ← List.drop_eq_getElem_cons (by omega), ← List.drop_eq_getElem_cons (by omega), List.take_append_drop]
theorem sum_turn (bs : List UInt8) (k : Nat) (y0 y1 y2 y3 : UInt8) (h : k + 4 ≤ bs.length) :
    sum bs = sum (turn bs k [y0, y1, y2, y3] 4) ↔ (y0 = 0 ∧ y1 = 0 ∧ y2 = 0 ∧ y3 = 0) := by
  obtain ⟨p, b0, b1, b2, b3, s, rfl, rfl⟩ := four_at bs k h
  rw [turn_four]
  exact sum_four p s b0 b1 b2 b3 y0 y1 y2 y3
theorem w_xor8 (c y : UInt8) : bits .xor .u8 (c.toNat : Int) (y.toNat : Int) = (((c ^^^ y).toNat : Nat) : Int) := by
  rw [u8_xor_nat _ _ c.toNat_lt y.toNat_lt, UInt8.toNat_xor]
end M

theorem cellsOf_set (bs : List UInt8) (j : Nat) (c : UInt8) : (cellsOf bs).set j (.int .u8 (c.toNat : Int)) = cellsOf (bs.set j c) := by
  simp [cellsOf, List.map_set]
theorem cellsOf_at (bs : List UInt8) (j : Nat) (h : j < bs.length) : (cellsOf bs)[j]? = some (.int .u8 ((bs.getD j 0).toNat : Int)) := by
  simp [cellsOf, h]

/-- by == [4]byte{}. -/
theorem eq4 (a0 a1 a2 a3 : Int) (wx : World) :
    (binOp .eql 42 (.agg #[.int .u8 a0, .int .u8 a1, .int .u8 a2, .int .u8 a3]) (.agg #[.int .u8 0, .int .u8 0, .int .u8 0, .int .u8 0])).run Tryd.prog wx = .ok (.bool (a0 == 0 && (a1 == 0 && (a2 == 0 && a3 == 0)))) wx := by
  obtain ⟨i0, hi, hz0, hz1, hz2⟩ := info_parts Tryd.info5
  have c5 : Tryd.prog.cellsOf 5 = 1 := by kernel_rfl
  have p0 : ∀ (x0 x1 x2 x3 : Value) (wy : World), (part 5 #[x0, x1, x2, x3] 0).run Tryd.prog wy = .ok x0 wy := fun _ _ _ _ _ => by kernel_rfl
  have p1 : ∀ (x0 x1 x2 x3 : Value) (wy : World), (part 5 #[x0, x1, x2, x3] 1).run Tryd.prog wy = .ok x1 wy := fun _ _ _ _ _ => by kernel_rfl
  have p2 : ∀ (x0 x1 x2 x3 : Value) (wy : World), (part 5 #[x0, x1, x2, x3] 2).run Tryd.prog wy = .ok x2 wy := fun _ _ _ _ _ => by kernel_rfl
  have p3 : ∀ (x0 x1 x2 x3 : Value) (wy : World), (part 5 #[x0, x1, x2, x3] 3).run Tryd.prog wy = .ok x3 wy := fun _ _ _ _ _ => by kernel_rfl
  have eI : ∀ (a b : Int) (wy : World), (Op.equalIn 9999 5 (.int .u8 a) (.int .u8 b)).run Tryd.prog wy = .ok (a == b) wy := fun a b wy => run_equalIn_int wy 9998 5 .u8 .u8 a b Tryd.underlying5
  rw [run_eql_struct, run_equalIn_array wx 9999 _ _ Tryd.underlying42 hi, c5, show List.range 4 = [0, 1, 2, 3] from rfl]
  have z : ∀ (r : Bool) (X : Sem Bool) (wy : World), (if (!r) = true then pure false else X).run Tryd.prog wy = if r = true then X.run Tryd.prog wy else .ok false wy := by
    intro r X wy
    cases r <;> simp [Sem.run_pure]
  simp only [Op.eqItems, Sem.run_bind, Nat.mul_one, p0, p1, p2, p3, eI, Result.andThen_ok, z, Sem.run_pure]
  cases a0 == 0 <;> cases a1 == 0 <;> cases a2 == 0 <;> cases a3 == 0 <;> rfl

theorem ret_bool {a b : Bool} (h : a = b) : Ending.returned (.bool a) = .returned (.bool b) := by rw [h]
theorem nought (y : UInt8) : ((y.toNat : Int) == 0) = decide (y = 0) := by
  rw [Bool.eq_iff_iff]
  simp [← UInt8.toNat_inj]
theorem fin_bool (s z : Nat) (y0 y1 y2 y3 : UInt8) (h : s = z ↔ (y0 = 0 ∧ y1 = 0 ∧ y2 = 0 ∧ y3 = 0)) :
    (((s : Int) == (z : Int)) == ((y0.toNat : Int) == 0 && ((y1.toNat : Int) == 0 && ((y2.toNat : Int) == 0 && (y3.toNat : Int) == 0)))) = true := by
  have e : ((s : Int) == (z : Int)) = decide (s = z) := by
    rw [Bool.eq_iff_iff]
    simp
    omega
  rw [e, nought, nought, nought, nought]
  by_cases hs : s = z
  · have h' := h.1 hs
    simp [hs, h']
  · have h' : ¬ (y0 = 0 ∧ y1 = 0 ∧ y2 = 0 ∧ y3 = 0) := fun x => hs (h.2 x)
    simp only [hs, decide_false]
    rw [← Bool.decide_and, ← Bool.decide_and, ← Bool.decide_and]
    simp [h']

theorem sum_qn (w : World) (nq : Nat) (ao : Option Addr) (cap : Nat) (bs : List UInt8) (n : Nat) (hn : bs.length = n) (hl : n ≤ 1000000) (ht : Tab w) (hc : Rd w ao bs) :
    Calls Tryd.prog 12 #[.slice ao n cap] (w.drewN nq) fun e w'' => e = .returned (.int .u32 ((M.sum bs : Nat) : Int)) ∧ ∃ m, w'' = w.drewN m := by
  subst hn
  exact sum_q w nq ao cap bs _ hl ht hc rfl

set_option maxHeartbeats 1000000 in
theorem finds_any (ao : Option Addr) (cap : Nat) (bs : List UInt8) (a : Int) (ha : 0 ≤ a) (ha' : a ≤ 65535) (y0 y1 y2 y3 : UInt8) (w : World) (ht : Tab w) (hm : bs.length ≤ 9223372036854775807) (hc : Rd w ao bs) (hn : ao = none → cap = 0) :
    Calls Tryd.prog 5 #[.slice ao bs.length cap, .int .u16 a, .agg #[.int .u8 (y0.toNat : Int), .int .u8 (y1.toNat : Int), .int .u8 (y2.toNat : Int), .int .u8 (y3.toNat : Int)]] w fun e w' => e = .returned (.bool true) ∧ Below w.heap.size w w' := by
  have hB0 : Below w.heap.size w (w.alloc (.cells #[.int .u8 (y0.toNat : Int), .int .u8 (y1.toNat : Int), .int .u8 (y2.toNat : Int), .int .u8 (y3.toNat : Int)] 42)) := (Below.refl _ _).alloc (Nat.le_refl _) _
  by_cases hl : bs.length < 4
  · go_enter Tryd.func5, Tryd.ntmps5
    go_wp2_with fail
    refine (known_any _ (ht.later hB0)).mono ?_
    rintro e w1 ⟨rfl, hb⟩
    have hB1 : Below w.heap.size w w1 := hB0.trans (hb.mono (by simp))
    clear hb hB0
    go_wp2
    go_ret
    exact ⟨rfl, hB1⟩
  by_cases hl2 : 400 < bs.length
  · go_enter Tryd.func5, Tryd.ntmps5
    go_wp2_with fail
    refine (known_any _ (ht.later hB0)).mono ?_
    rintro e w1 ⟨rfl, hb⟩
    have hB1 : Below w.heap.size w w1 := hB0.trans (hb.mono (by simp))
    clear hb hB0
    go_wp2
    go_ret
    exact ⟨rfl, hB1⟩
  go_enter Tryd.func5, Tryd.ntmps5
  go_wp2_with fail
  refine (known_any _ (ht.later hB0)).mono ?_
  rintro e w1 ⟨rfl, hb⟩
  have hB1 : Below w.heap.size w w1 := hB0.trans (hb.mono (by simp))
  have hsz : w.heap.size < w1.heap.size := by have := hb.size; simp at this; omega
  have hbox : ∀ i (h : i < 4), w1.cell? ⟨w.heap.size, i, none⟩ = some (.int .u8 ((([y0, y1, y2, y3] : List UInt8).getD i 0).toNat : Int)) := by
    intro i hi
    refine cell_later hb ?_
    unfold World.cell?
    rw [heap_alloc_new]
    match i, hi with
    | 0, _ | 1, _ | 2, _ | 3, _ => rfl
    | n + 4, h => exact absurd h (by omega)
  have ht1 := ht.later hB1
  have hc1 := hc.later hB1
  clear hb hB0 ht hc
  obtain ⟨k, hk⟩ : ∃ k : Nat, a % ((bs.length : Int) - 3) = (k : Int) := ⟨(a % ((bs.length : Int) - 3)).toNat, by rw [Int.toNat_of_nonneg (Int.emod_nonneg _ (by omega))]⟩
  have hkl : k + 4 ≤ bs.length := by have := Int.emod_lt_of_pos a (show (0 : Int) < (bs.length : Int) - 3 by omega); omega
  go_wp2_with (at_builtin; refine wpl_app rfl _ _ rfl w1.heap.size (.slice none 0 0) [] ao bs cap rfl rfl (own_nil _) (Nat.le_refl _) hc1 hn (by simp; omega) ?_)
  intro v2 w2 ho2 hb2
  obtain ⟨g, cap2, rfl, hBg, hgl⟩ := World.ownsRow.form ho2 (show 0 < bs.length by omega)
  have ho2' : w2.ownsRow w1.heap.size 5 1 (.slice (some ⟨g, 0, none⟩) bs.length cap2) bs.length (cellsOf bs) := ho2
  clear ho2
  go_wp2
  go_loopw [9] (fun i wr => ∃ j : Nat, j ≤ 4 ∧ i = .int .i64 j ∧ wr.ownsRow w1.heap.size 5 1 (.slice (some ⟨g, 0, none⟩) bs.length cap2) bs.length (cellsOf (M.turn bs k [y0, y1, y2, y3] j)) ∧ Below w1.heap.size w1 wr) (fun i _ => 4 - (intOf i).toNat)
  case atStart => exact ⟨0, by omega, rfl, ho2', hb2⟩
  case round =>
    obtain ⟨j, hj, rfl, hown, hbr⟩ := hrel
    have hTl := M.turn_length bs k [y0, y1, y2, y3] j
    by_cases hlt : j < 4
    · have c1 : wr.cell? ⟨g, k + j, none⟩ = some (.int .u8 (((M.turn bs k [y0, y1, y2, y3] j).getD (k + j) 0).toNat : Int)) := by
        rw [hown.cellAt (k + j) (by omega)]
        exact cellsOf_at _ _ (by omega)
      have f1 : wr.frozen? ⟨g, k + j, none⟩ = false := hown.frozenAt (k + j)
      have c2 : wr.cell? ⟨w.heap.size, j, none⟩ = some (.int .u8 ((([y0, y1, y2, y3] : List UInt8).getD j 0).toNat : Int)) := (hbr.cell (by exact hsz)).trans (hbox j hlt)
      have HT : Hid (M.turn bs k [y0, y1, y2, y3] (j + 1) = (M.turn bs k [y0, y1, y2, y3] j).set (k + j) ((M.turn bs k [y0, y1, y2, y3] j).getD (k + j) 0 ^^^ ([y0, y1, y2, y3] : List UInt8).getD j 0)) := rfl
      have e1 := M.w_xor8 ((M.turn bs k [y0, y1, y2, y3] j).getD (k + j) 0) (([y0, y1, y2, y3] : List UInt8).getD j 0)
      generalize (M.turn bs k [y0, y1, y2, y3] j).getD (k + j) 0 = c at *
      generalize ([y0, y1, y2, y3] : List UInt8).getD j 0 = y at *
      have HS := hown.stored (k + j) (.int .u8 ((c ^^^ y).toNat : Int))
      rw [cellsOf_set] at HS
      have HS' := hide HS
      have HO := hide hown
      clear HS hbox hTl hown
      go_wp2
      go_region
      all_goals
        go_wp2
        go_roundw
        case rel => exact ⟨j + 1, by omega, by go_num, by rw [HT.out]; exact HS'.out.1, hbr.drew.setCell (by exact hBg) _⟩
        case measure => simp [intOf]; omega
    · obtain rfl : j = 4 := by omega
      have c0 : wr.cell? ⟨w.heap.size, 0, none⟩ = some (.int .u8 (y0.toNat : Int)) := (hbr.cell (by exact hsz)).trans (hbox 0 (by omega))
      have c1 : wr.cell? ⟨w.heap.size, 1, none⟩ = some (.int .u8 (y1.toNat : Int)) := (hbr.cell (by exact hsz)).trans (hbox 1 (by omega))
      have c2 : wr.cell? ⟨w.heap.size, 2, none⟩ = some (.int .u8 (y2.toNat : Int)) := (hbr.cell (by exact hsz)).trans (hbox 2 (by omega))
      have c3 : wr.cell? ⟨w.heap.size, 3, none⟩ = some (.int .u8 (y3.toNat : Int)) := (hbr.cell (by exact hsz)).trans (hbox 3 (by omega))
      have hE := M.sum_turn bs k y0 y1 y2 y3 hkl
      have hTd : Rd wr (some ⟨g, 0, none⟩) (M.turn bs k [y0, y1, y2, y3] 4) := by
        intro i hi
        refine ⟨g, 0, rfl, ?_⟩
        rw [Nat.zero_add, hown.cellAt i (by omega)]
        simp [cellsOf, hi]
      have htr := ht1.later hbr
      have hcr := hc1.later hbr
      have hBr : Below w.heap.size w wr := hB1.trans (hbr.mono hB1.size)
      generalize M.turn bs k [y0, y1, y2, y3] 4 = zs at *
      have HTl := hide hTl
      have HE := hide hE
      have hbl : bs.length ≤ 1000000 := by omega
      clear hbox hTl hE hown hb2 ho2'
      have hq := fun wx => eq4 (y0.toNat : Int) (y1.toNat : Int) (y2.toNat : Int) (y3.toNat : Int) wx
      have hg : Tryd.prog.eqGuardType Tryd.prog.depth 42 = false := by kernel_rfl
      go_wp2_with fail
      go_quiet (first
        | (go_at_call_of 12 (Value.slice ao bs.length cap); exact sum_qn _ _ ao cap bs _ rfl hbl htr hcr)
        | (go_at_call_of 12 (Value.slice (some ⟨g, 0, none⟩) bs.length cap2); exact sum_qn _ _ _ cap2 zs _ HTl.out hbl htr hTd))
      all_goals
        go_wp2
        go_ret
        exact ⟨ret_bool (fin_bool _ _ _ _ _ _ HE.out), below_drewN hBr nq⟩
end Go.Proofs.YtnkdlnphmfbagaaDoor
