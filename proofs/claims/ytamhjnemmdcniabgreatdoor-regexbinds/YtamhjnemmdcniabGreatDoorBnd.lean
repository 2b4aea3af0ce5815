/- What RegexBinds says: the values; the walk. -/
import Derived.Test.YtamhjnemmdcniabGreatDoorNsv
namespace Go.Proofs.YtamhjnemmdcniabGreatDoor
open Go.RowKit Go.Shelf
open E (T)
attribute [local go_sem] Oper.semAt_some
/-- So many stars, beside one another or with bars between. -/
def bt (bar : Bool) : Nat → List UInt8
  | 0 => []
  | i + 1 => bt bar i ++ ((if (decide (0 < i) && bar) = true then [124] else []) ++ [39, 97, 42])
def star (p : Int) : T := .mk 6 p [] [] [.mk 1 p [(97, 97)] [] []]
def bk (bar : Bool) : Int := if bar = true then 5 else 4
/-- What they are read as. -/
def btr (bar : Bool) : Nat → T
  | 0 => star 0
  | i + 1 => .mk (bk bar) 0 [] [] [btr bar i, star (if bar = true then 4 * ((i : Int) + 1) else 3 * ((i : Int) + 1))]
set_option maxRecDepth 100000 in
theorem parse_bt (k : Nat) (h : k < 8) (bar : Bool) : E.parse (bt bar (k + 2)) = .ok (btr bar (k + 1)) := by
  obtain rfl | rfl | rfl | rfl | rfl | rfl | rfl | rfl : k = 0 ∨ k = 1 ∨ k = 2 ∨ k = 3 ∨ k = 4 ∨ k = 5 ∨ k = 6 ∨ k = 7 := by omega
  all_goals cases bar <;> kernel_rfl
def tG : T := .mk 5 0 [] [] [.mk 4 0 [] [] [.mk 1 0 [(97, 97)] [] [], .mk 1 3 [(98, 98)] [] []], .mk 1 8 [(99, 99)] [] []]
theorem parse_g : E.parse [39, 97, 32, 39, 98, 32, 124, 32, 39, 99] = .ok tG := by kernel_rfl
theorem star_pre (p : Int) : E.cnt (E.pre (star p) (star p)) = 1 ∧ (E.pre (star p) (star p)).length = 2 := by
  simp [star, E.pre, E.preK, E.cnt, T.kind, T.kids]
theorem btr_pre (bar : Bool) : ∀ k, E.cnt (E.pre (btr bar k) (btr bar k)) = k + 1 ∧ (E.pre (btr bar k) (btr bar k)).length = 3 * k + 2
  | 0 => star_pre 0
  | k + 1 => by
    have ih := btr_pre bar k
    have hs := star_pre (if bar = true then 4 * ((k : Int) + 1) else 3 * ((k : Int) + 1))
    rw [btr, E.pre, T.kids, E.preK_cons, E.preK_cons, E.preK_nil, List.append_nil]
    refine ⟨?_, by rw [List.length_cons, List.length_append]; omega⟩
    have h1 := ih.1
    have h2 := hs.1
    unfold E.cnt at h1 h2 ⊢
    rw [List.countP_cons, List.countP_append, h1, h2]
    have hb : ¬ bk bar = 1 := by cases bar <;> decide
    simp [T.kind, hb]
theorem bt_len (bar : Bool) : ∀ i, (bt bar i).length ≤ 4 * i
  | 0 => Nat.le_refl _
  | i + 1 => by
    have := bt_len bar i
    rw [bt, List.length_append, List.length_append]
    split <;> simp <;> omega
set_option maxRecDepth 100000 in
set_option maxHeartbeats 1000000 in
theorem binds_any (x : UInt8) (bar : Bool) (w : World) (ht : Tabs w) (hd : Deb w) : Calls Tryz.prog 3 #[.int .u8 (x.toNat : Int), .bool bar] w fun e w' => e = .returned (.bool true) ∧ Below w.heap.size w w' := by
  have hk := known_any w ht hd
  have hx := x.toNat_lt
  have hm : (x.toNat : Int) % 8 = ((x.toNat % 8 : Nat) : Int) := by omega
  have hm8 : x.toNat % 8 < 8 := Nat.mod_lt _ (by decide)
  generalize hn : x.toNat % 8 = n0 at *
  clear hn
  obtain ⟨n, hn⟩ : ∃ n : Nat, n0 + 2 = n := ⟨_, rfl⟩
  have fn : (n0 : Int) + 2 = (n : Int) := by omega
  have HBT : Hid (E.parse (bt bar n) = .ok (btr bar (n - 1))) := hide (by have := parse_bt n0 hm8 bar; rw [hn] at this; rw [this, show n - 1 = n0 + 1 by omega])
  have hn2 : 2 ≤ n := by omega
  have hn9 : n ≤ 9 := by omega
  go_enter Tryz.func3, Tryz.ntmps3
  go_wp2_with fail
  refine hk.mono ?_
  rintro e w1 ⟨rfl, hb1⟩
  clear hk hn
  go_wp2
  clear fn hm hm8
  go_loopw [6, 7] (fun p u wr => ∃ (i : Nat) (A : ByteArray), p = .string A ∧ u = .int .i64 (i : Int) ∧ i ≤ n ∧ Hid (bts A = bt bar i) ∧ wr = w1) (fun _ u _ => n - (intOf u).toNat)
  case atStart => exact ⟨0, _, rfl, rfl, Nat.zero_le _, hide rfl, by first | rfl | trivial⟩
  case round =>
    obtain ⟨i, A, rfl, rfl, hi, HA, hwr⟩ := hrel
    obtain rfl := hwr.symm
    clear hwr
    have hAs : A.size ≤ 36 := by
      have := bt_len bar i
      rw [← bts_len, HA.out]; omega
    have hA2 : ∀ c : ByteArray, (A ++ c).size = A.size + c.size := fun c => ByteArray.size_append
    by_cases hlt : i < n
    · cases bar with
      | false =>
        by_cases h0 : 0 < i
        · have H0 := hide h0
          go_wp2
          go_roundw
          case rel => exact ⟨i + 1, _, rfl, by go_num, by omega, hide (by rw [bts_app, HA.out, bt]; simp; rfl), by first | rfl | trivial⟩
          case measure => simp [intOf]; omega
        · have g0 : decide (0 < (i : Int)) = false := decide_eq_false (by omega)
          have g1 : decide (0 < i) = false := decide_eq_false h0
          have H0 := hide h0
          clear h0
          go_wp2
          go_roundw
          case rel => exact ⟨i + 1, _, rfl, by go_num, by omega, hide (by rw [bts_app, HA.out, bt]; simp [H0.out]; rfl), by first | rfl | trivial⟩
          case measure => simp [intOf]; omega
      | true =>
        by_cases h0 : 0 < i
        · have H0 := hide h0
          go_wp2
          go_roundw
          case rel => exact ⟨i + 1, _, rfl, by go_num, by omega, hide (by rw [bts_app, bts_app, HA.out, bt]; simp [H0.out]; rfl), by first | rfl | trivial⟩
          case measure => simp [intOf]; omega
        · have g0 : decide (0 < (i : Int)) = false := decide_eq_false (by omega)
          have g1 : decide (0 < i) = false := decide_eq_false h0
          have H0 := hide h0
          clear h0
          go_wp2
          go_roundw
          case rel => exact ⟨i + 1, _, rfl, by go_num, by omega, hide (by rw [bts_app, HA.out, bt]; simp [H0.out]; rfl), by first | rfl | trivial⟩
          case measure => simp [intOf]; omega
    · obtain rfl : i = n := by omega
      have hpa := parse_any A (by omega) w1 (ht.later hb1)
      rw [HA.out, HBT.out] at hpa
      go_wp2_with fail
      refine hpa.mono ?_
      intro e w2 ha
      obtain ⟨hb2, d, rfl, htr⟩ := ha.ok
      clear hpa ha
      have a1 := al1 w2 (.cells #[.int .i64 d.k, .int .i64 d.a, .slice d.sp d.sl d.sc, .string d.n, .slice d.kp d.kl d.kc] 26)
      have n1 := heap_alloc_new w2 (.cells #[.int .i64 d.k, .int .i64 d.a, .slice d.sp d.sl d.sc, .string d.n, .slice d.kp d.kl d.kc] 26)
      obtain ⟨X1, hX1⟩ : ∃ X1, w2.alloc (.cells #[.int .i64 d.k, .int .i64 d.a, .slice d.sp d.sl d.sc, .string d.n, .slice d.kp d.kl d.kc] 26) = X1 := ⟨_, rfl⟩
      rw [hX1] at a1 n1
      obtain ⟨r0, r1, r2, r3, r4⟩ := cells_five n1
      have HN := hide n1
      have bW := nx hb1 hb2
      have hpl := places_any _ d X1 (TR.later (fun k hk => a1.block k hk) _ htr) (by have := (btr_pre bar (i - 1)).2; omega)
      rw [(btr_pre bar (i - 1)).1, show i - 1 + 1 = i by omega] at hpl
      have HTR := hide htr
      unfold ND.v at hpl ⊢
      clear htr n1
      go_wp2_with fail
      refine hpl.mono ?_
      rintro e X2 ⟨rfl, hb3⟩
      have bX2 := nx a1 hb3
      have m1 := (hb3.block w2.heap.size (Array.getElem?_eq_some_iff.1 HN.out).1).trans HN.out
      clear hpl hX1 r0 r1 r2 r3 r4 a1 HN hb3
      cases bar with
      | false =>
        go_wp2
        go_loopw [12] (fun u wr => ∃ (j : Nat) (d : ND), u = .int .i64 (j : Int) ∧ 1 ≤ j ∧ j ≤ i ∧ wr.heap[w2.heap.size]? = some (.cells #[.int .i64 d.k, .int .i64 d.a, .slice d.sp d.sl d.sc, .string d.n, .slice d.kp d.kl d.kc] 26) ∧ Hid (TR w2 (fun _ => True) (btr false (i - j)) d.v) ∧ Below w2.heap.size w2 wr) (fun u _ => i - (intOf u).toNat)
        case atStart => exact ⟨1, d, rfl, by omega, by omega, m1, HTR, bX2⟩
        case round =>
          obtain ⟨j, d, rfl, hj1, hj, hbox, HT, hB⟩ := hrel
          by_cases hlt : j < i
          · obtain ⟨m, hm⟩ : ∃ m, i - j = m + 1 := ⟨i - j - 1, by omega⟩
            rw [hm] at HT
            have hk : d.k = 4 := HT.out.kindE
            have hat : d.a = 0 := HT.out.atE
            obtain ⟨e1, e2, e3⟩ := HT.out.kidsE
            have e1 : d.kl = 2 := e1
            obtain ⟨b0, off, v0, f1, f2, f3⟩ := KR.get _ 0 e2 0 (show 0 < 2 by decide)
            obtain ⟨b1, off1, v1, f1', f2', f3'⟩ := KR.get _ 0 e2 1 (show 1 < 2 by decide)
            rw [f1] at f1'
            cases f1'
            obtain ⟨d0, rfl⟩ := f2.ndD
            obtain ⟨d1, rfl⟩ := f2'.ndD
            have k1 : d1.k = 6 := f2'.kindE
            have hlb := cells5_lt f3
            obtain ⟨y0, y1, y2, y3, y4⟩ := cells5_atW f3 hB hlb
            have x0 := (cells5_atW f3' hB hlb).1
            rw [k1] at x0
            simp only [Nat.zero_mul, Nat.add_zero, Nat.zero_add, Nat.one_mul] at y0 y1 y2 y3 y4 x0
            have H2 : Hid (TR w2 (fun _ => True) (btr false m) d0.v) := hide f2
            rw [hk, hat, e1, f1] at hbox
            obtain ⟨z0, z1, z2, z3, z4⟩ := cells_five hbox
            have g0 := frozen_row hbox 0
            have g1 := frozen_row hbox 1
            have g2 := frozen_row hbox 2
            have g3 := frozen_row hbox 3
            have g4 := frozen_row hbox 4
            have hix := elemSize24w
            have hnb := putN_box (v0 := .int .i64 d0.k) (v1 := .int .i64 d0.a) (v2 := .slice d0.sp d0.sl d0.sc) (v3 := .string d0.n) (v4 := .slice d0.kp d0.kl d0.kc) hbox
            have hbb := putN_below (b := w2.heap.size) (v0 := .int .i64 d0.k) (v1 := .int .i64 d0.a) (v2 := .slice d0.sp d0.sl d0.sc) (v3 := .string d0.n) (v4 := .slice d0.kp d0.kl d0.kc) hB (Nat.le_refl _)
            unfold putN at hnb hbb
            have HNB := hide hnb
            have HBB := hide hbb
            have HM := hide hm
            clear f1 f2 f2' f3 f3' e2 e3 HT hnb hbb hm hbox
            go_wp2
            go_roundw
            case rel => exact ⟨j + 1, d0, by go_num, by omega, by omega, HNB.out, by rw [show i - (j + 1) = m by have := HM.out; omega]; exact H2, HBB.out⟩
            case measure => simp [intOf]; omega
          · obtain rfl : j = i := by omega
            rw [Nat.sub_self] at HT
            have hk : d.k = 6 := HT.out.kindE
            rw [hk] at hbox
            have bX := nx bW hB
            have hpg := parse_any ⟨#[39, 97, 32, 39, 98, 32, 124, 32, 39, 99]⟩ (by decide) wr (ht.later bX)
            rw [show E.parse (bts ⟨#[39, 97, 32, 39, 98, 32, 124, 32, 39, 99]⟩) = _ from parse_g] at hpg
            have HBX := hide hbox
            clear HT hbox
            go_wp2_with fail
            refine hpg.mono ?_
            intro e X3 ha
            obtain ⟨hb3, d3, rfl, htr⟩ := ha.ok
            have k3 : d3.k = 5 := htr.kindE
            obtain ⟨e1, e2, e3⟩ := htr.kidsE
            have e1 : d3.kl = 2 := e1
            obtain ⟨b0, off, v0, f1, f2, f3⟩ := KR.get _ 0 e2 0 (show 0 < 2 by decide)
            obtain ⟨d0, rfl⟩ := f2.ndD
            have k0 : d0.k = 4 := f2.kindE
            have hlb := cells5_lt f3
            unfold ND.v
            rw [k3, e1, f1]
            have a4 := al1 X3 (.cells #[.int .i64 5, .int .i64 d3.a, .slice d3.sp d3.sl d3.sc, .string d3.n, .slice (some ⟨b0, off, none⟩) 2 d3.kc] 26)
            have n4 := heap_alloc_new X3 (.cells #[.int .i64 5, .int .i64 d3.a, .slice d3.sp d3.sl d3.sc, .string d3.n, .slice (some ⟨b0, off, none⟩) 2 d3.kc] 26)
            have q4 := (a4.block w2.heap.size (by have := hb3.size; have := (Array.getElem?_eq_some_iff.1 HBX.out).1; omega)).trans ((hb3.block w2.heap.size (Array.getElem?_eq_some_iff.1 HBX.out).1).trans HBX.out)
            have y0 := (cells5_atW f3 a4 hlb).1
            rw [k0] at y0
            simp only [Nat.zero_mul, Nat.add_zero] at y0
            obtain ⟨X4, hX4⟩ : ∃ X4, X3.alloc (.cells #[.int .i64 5, .int .i64 d3.a, .slice d3.sp d3.sl d3.sc, .string d3.n, .slice (some ⟨b0, off, none⟩) 2 d3.kc] 26) = X4 := ⟨_, rfl⟩
            rw [hX4] at a4 n4 q4 y0
            have bX4 := nx bX (nx hb3 a4)
            obtain ⟨r0, r1, r2, r3, r4⟩ := cells_five n4
            obtain ⟨s0, s1, s2, s3, s4⟩ := cells_five q4
            have hix := elemSize24w
            clear hpg ha htr e2 e3 f2 f3 HBX n4 q4
            go_wp2
            go_ret
            exact ⟨rfl, bX4⟩
      | true =>
        go_wp2
        go_loopw [12] (fun u wr => ∃ (j : Nat) (d : ND), u = .int .i64 (j : Int) ∧ 1 ≤ j ∧ j ≤ i ∧ wr.heap[w2.heap.size]? = some (.cells #[.int .i64 d.k, .int .i64 d.a, .slice d.sp d.sl d.sc, .string d.n, .slice d.kp d.kl d.kc] 26) ∧ Hid (TR w2 (fun _ => True) (btr true (i - j)) d.v) ∧ Below w2.heap.size w2 wr) (fun u _ => i - (intOf u).toNat)
        case atStart => exact ⟨1, d, rfl, by omega, by omega, m1, HTR, bX2⟩
        case round =>
          obtain ⟨j, d, rfl, hj1, hj, hbox, HT, hB⟩ := hrel
          by_cases hlt : j < i
          · obtain ⟨m, hm⟩ : ∃ m, i - j = m + 1 := ⟨i - j - 1, by omega⟩
            rw [hm] at HT
            have hk : d.k = 5 := HT.out.kindE
            have hat : d.a = 0 := HT.out.atE
            obtain ⟨e1, e2, e3⟩ := HT.out.kidsE
            have e1 : d.kl = 2 := e1
            obtain ⟨b0, off, v0, f1, f2, f3⟩ := KR.get _ 0 e2 0 (show 0 < 2 by decide)
            obtain ⟨b1, off1, v1, f1', f2', f3'⟩ := KR.get _ 0 e2 1 (show 1 < 2 by decide)
            rw [f1] at f1'
            cases f1'
            obtain ⟨d0, rfl⟩ := f2.ndD
            obtain ⟨d1, rfl⟩ := f2'.ndD
            have k1 : d1.k = 6 := f2'.kindE
            have hlb := cells5_lt f3
            obtain ⟨y0, y1, y2, y3, y4⟩ := cells5_atW f3 hB hlb
            have x0 := (cells5_atW f3' hB hlb).1
            rw [k1] at x0
            simp only [Nat.zero_mul, Nat.add_zero, Nat.zero_add, Nat.one_mul] at y0 y1 y2 y3 y4 x0
            have H2 : Hid (TR w2 (fun _ => True) (btr true m) d0.v) := hide f2
            rw [hk, hat, e1, f1] at hbox
            obtain ⟨z0, z1, z2, z3, z4⟩ := cells_five hbox
            have g0 := frozen_row hbox 0
            have g1 := frozen_row hbox 1
            have g2 := frozen_row hbox 2
            have g3 := frozen_row hbox 3
            have g4 := frozen_row hbox 4
            have hix := elemSize24w
            have hnb := putN_box (v0 := .int .i64 d0.k) (v1 := .int .i64 d0.a) (v2 := .slice d0.sp d0.sl d0.sc) (v3 := .string d0.n) (v4 := .slice d0.kp d0.kl d0.kc) hbox
            have hbb := putN_below (b := w2.heap.size) (v0 := .int .i64 d0.k) (v1 := .int .i64 d0.a) (v2 := .slice d0.sp d0.sl d0.sc) (v3 := .string d0.n) (v4 := .slice d0.kp d0.kl d0.kc) hB (Nat.le_refl _)
            unfold putN at hnb hbb
            have HNB := hide hnb
            have HBB := hide hbb
            have HM := hide hm
            clear f1 f2 f2' f3 f3' e2 e3 HT hnb hbb hm hbox
            go_wp2
            go_roundw
            case rel => exact ⟨j + 1, d0, by go_num, by omega, by omega, HNB.out, by rw [show i - (j + 1) = m by have := HM.out; omega]; exact H2, HBB.out⟩
            case measure => simp [intOf]; omega
          · obtain rfl : j = i := by omega
            rw [Nat.sub_self] at HT
            have hk : d.k = 6 := HT.out.kindE
            rw [hk] at hbox
            have bX := nx bW hB
            have hpg := parse_any ⟨#[39, 97, 32, 39, 98, 32, 124, 32, 39, 99]⟩ (by decide) wr (ht.later bX)
            rw [show E.parse (bts ⟨#[39, 97, 32, 39, 98, 32, 124, 32, 39, 99]⟩) = _ from parse_g] at hpg
            have HBX := hide hbox
            clear HT hbox
            go_wp2_with fail
            refine hpg.mono ?_
            intro e X3 ha
            obtain ⟨hb3, d3, rfl, htr⟩ := ha.ok
            have k3 : d3.k = 5 := htr.kindE
            obtain ⟨e1, e2, e3⟩ := htr.kidsE
            have e1 : d3.kl = 2 := e1
            obtain ⟨b0, off, v0, f1, f2, f3⟩ := KR.get _ 0 e2 0 (show 0 < 2 by decide)
            obtain ⟨d0, rfl⟩ := f2.ndD
            have k0 : d0.k = 4 := f2.kindE
            have hlb := cells5_lt f3
            unfold ND.v
            rw [k3, e1, f1]
            have a4 := al1 X3 (.cells #[.int .i64 5, .int .i64 d3.a, .slice d3.sp d3.sl d3.sc, .string d3.n, .slice (some ⟨b0, off, none⟩) 2 d3.kc] 26)
            have n4 := heap_alloc_new X3 (.cells #[.int .i64 5, .int .i64 d3.a, .slice d3.sp d3.sl d3.sc, .string d3.n, .slice (some ⟨b0, off, none⟩) 2 d3.kc] 26)
            have q4 := (a4.block w2.heap.size (by have := hb3.size; have := (Array.getElem?_eq_some_iff.1 HBX.out).1; omega)).trans ((hb3.block w2.heap.size (Array.getElem?_eq_some_iff.1 HBX.out).1).trans HBX.out)
            have y0 := (cells5_atW f3 a4 hlb).1
            rw [k0] at y0
            simp only [Nat.zero_mul, Nat.add_zero] at y0
            obtain ⟨X4, hX4⟩ : ∃ X4, X3.alloc (.cells #[.int .i64 5, .int .i64 d3.a, .slice d3.sp d3.sl d3.sc, .string d3.n, .slice (some ⟨b0, off, none⟩) 2 d3.kc] 26) = X4 := ⟨_, rfl⟩
            rw [hX4] at a4 n4 q4 y0
            have bX4 := nx bX (nx hb3 a4)
            obtain ⟨r0, r1, r2, r3, r4⟩ := cells_five n4
            obtain ⟨s0, s1, s2, s3, s4⟩ := cells_five q4
            have hix := elemSize24w
            clear hpg ha htr e2 e3 f2 f3 HBX n4 q4
            go_wp2
            go_ret
            exact ⟨rfl, bX4⟩
theorem binds_u8 (n : Int) (h : 0 ≤ n ∧ n ≤ 255) (bar : Bool) (w : World) (ht : Tabs w) (hd : Deb w) : Calls Tryz.prog 3 #[.int .u8 n, .bool bar] w fun e w' => e = .returned (.bool true) ∧ Below w.heap.size w w' := by
  have hn : ((UInt8.ofNat n.toNat).toNat : Int) = n := by
    rw [UInt8.toNat_ofNat']
    omega
  have := binds_any (UInt8.ofNat n.toNat) bar w ht hd
  rw [hn] at this
  exact this
end Go.Proofs.YtamhjnemmdcniabGreatDoor
