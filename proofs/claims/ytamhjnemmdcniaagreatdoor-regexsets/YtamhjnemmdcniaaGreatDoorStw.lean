/- What RegexSets says: the walk. -/
import Derived.Test.YtamhjnemmdcniaaGreatDoorBkp
import Derived.Test.YtamhjnemmdcniaaGreatDoorNsv
import Derived.Test.YtamhjnemmdcniaaGreatDoorUSame
namespace Go.Proofs.YtamhjnemmdcniaaGreatDoor
open Go.RowKit Go.Shelf
open E (T)
attribute [local go_sem] Oper.semAt_some
theorem enc_one {n : Nat} (h : n < 128) : Utf8.encode (n : Int) = ⟨#[n.toUInt8]⟩ := by
  have hv : Utf8.valid (n : Int) = true := by
    unfold Utf8.valid
    simp
    omega
  unfold Utf8.encode
  rw [hv]
  simp only [if_true, Int.toNat_natCast]
  rw [if_pos (by omega)]
theorem one_rune (w : World) {n : Nat} (h : n < 128) : (convert 48 9 (.slice (some ⟨w.heap.size, 0, none⟩) 1 1)).run Tryz.prog (w.alloc (.cells #[.int .i32 (n : Int)] 21)) = .ok (.string ⟨#[n.toUInt8]⟩) (w.alloc (.cells #[.int .i32 (n : Int)] 21)) := by
  rw [run_convert_runes (P := Tryz.prog) (w.alloc (.cells #[.int .i32 (n : Int)] 21)) 48 9 21 ⟨w.heap.size, 0, none⟩ 1 1 [(n : Int)] (by simp) Tryz.underlying48 Tryz.underlying21 Tryz.underlying9 (fun j hj => by
    obtain rfl : j = 0 := by simpa using hj
    have hx := heap_alloc_new w (.cells #[.int .i32 (n : Int)] 21)
    rw [adAdd]
    unfold World.cell?
    rw [show (w.alloc (.cells #[.int .i32 (n : Int)] 21)).heap[(⟨w.heap.size, 0 + 0, none⟩ : Addr).block]? = _ from hx]
    rfl)]
  rw [← enc_one h]
  have : runesBytes ([(n : Int)].take 1) = Utf8.encode (n : Int) := by
    show ByteArray.empty ++ Utf8.encode (n : Int) = _
    simp
  rw [this]
theorem parse_sx (nt : Bool) {x y z : UInt8} (hx : 97 ≤ x.toNat ∧ x.toNat ≤ 122) (hy : 97 ≤ y.toNat ∧ y.toNat ≤ 122) (hz : 65 ≤ z.toNat ∧ z.toNat ≤ 90) :
    E.parse (sx nt x y z) = if (x.toNat : Int) ≤ (y.toNat : Int) then .ok (.mk 1 0 (if nt = true then U.S.set (U.S.not (U.S.set [((x.toNat : Int), (y.toNat : Int)), ((z.toNat : Int), (z.toNat : Int))])) else U.S.set [((x.toNat : Int), (y.toNat : Int)), ((z.toNat : Int), (z.toNat : Int))]) [] []) else .error (30, if nt = true then 2 else 1) := by
  have ne : ∀ c : UInt8, 65 ≤ c.toNat ∧ c.toNat ≤ 122 ∧ c.toNat ≠ 92 → 32 ≤ c.toNat ∧ c.toNat < 127 ∧ c ≠ 92 := fun c h => ⟨by omega, by omega, fun e => h.2.2 (by rw [e]; rfl)⟩
  unfold E.parse
  rw [scan_sx nt (ne x (by omega)) (ne y (by omega)) (ne z (by omega))]
  simp only
  rw [alt_sl, square_sl]
  by_cases h : (x.toNat : Int) ≤ (y.toNat : Int)
  · rw [if_pos h, if_pos h]
    obtain ⟨f1, f2⟩ := fin_sx nt (x := x.toNat) (y := y.toNat) (z := z.toNat) (by omega) h (by omega) (by omega) (by omega)
    rw [if_pos f1, f2]
    cases nt <;> rfl
  · rw [if_neg h, if_neg h]
    cases nt <;> rfl
theorem u8_nat {n : Nat} (h : n < 128) {b : UInt8} (e : n.toUInt8 = b) : b.toNat = n := by
  subst e
  simp
  omega
theorem sets_same (nt : Bool) (q : List U.S.R) (r : List U.S.R) (h : r = if nt = true then U.S.not (U.S.set q) else U.S.set q) : U.S.set (if nt = true then U.S.set (U.S.not (U.S.set q)) else U.S.set q) = U.S.set r := by
  have idem : ∀ l : List U.S.R, U.S.Canon l → U.S.set l = l := fun l h => U.S.canon_eq (U.S.set_canon l) h fun p => by rw [U.S.set_has]; exact h.hs p
  subst h
  cases nt
  · rfl
  · simp only [if_true]
    rw [idem _ (U.S.set_canon _)]
theorem sets_len (nt : Bool) (q : List U.S.R) : (if nt = true then U.S.set (U.S.not (U.S.set q)) else U.S.set q).length ≤ q.length + 1 := by
  have h1 := U.S.set_length q
  have h2 := not_lenS (U.S.set q)
  have h3 := U.S.set_length (U.S.not (U.S.set q))
  cases nt
  · simp; omega
  · simp; omega
theorem new_rows {w : World} {x y : Int} : U.RdR (w.alloc (.cells #[.int .i32 x, .int .i32 y] 51)) (some ⟨w.heap.size, 0, none⟩) [(x, y)] := fun i hi => by
  obtain rfl : i = 0 := by simpa using hi
  have hx := heap_alloc_new w (.cells #[.int .i32 x, .int .i32 y] 51)
  refine ⟨w.heap.size, 0, rfl, ?_, ?_⟩
  · unfold World.cell?
    rw [show (w.alloc (.cells #[.int .i32 x, .int .i32 y] 51)).heap[(⟨w.heap.size, 0 + 0 * 2, none⟩ : Addr).block]? = _ from hx]
    rfl
  · unfold World.cell?
    rw [show (w.alloc (.cells #[.int .i32 x, .int .i32 y] 51)).heap[(⟨w.heap.size, 0 + 0 * 2 + 1, none⟩ : Addr).block]? = _ from hx]
    rfl
set_option maxRecDepth 100000 in
set_option maxHeartbeats 1000000 in
theorem sets_any (a b c : UInt8) (nt : Bool) (w : World) (ht : Tabs w) (hd : Deb w) : Calls Tryz.prog 8 #[.int .u8 (a.toNat : Int), .int .u8 (b.toNat : Int), .int .u8 (c.toNat : Int), .bool nt] w fun e w' => e = .returned (.bool true) ∧ Below w.heap.size w w' := by
  have hk := known_any w ht hd
  have ha := a.toNat_lt
  have hb := b.toNat_lt
  have hc := c.toNat_lt
  have ma : (a.toNat : Int) % 26 = ((a.toNat % 26 : Nat) : Int) := by omega
  have mb : (b.toNat : Int) % 26 = ((b.toNat % 26 : Nat) : Int) := by omega
  have mc : (c.toNat : Int) % 26 = ((c.toNat % 26 : Nat) : Int) := by omega
  have la : a.toNat % 26 < 26 := Nat.mod_lt _ (by decide)
  have lb : b.toNat % 26 < 26 := Nat.mod_lt _ (by decide)
  have lc : c.toNat % 26 < 26 := Nat.mod_lt _ (by decide)
  generalize a.toNat % 26 = x0 at *
  generalize b.toNat % 26 = y0 at *
  generalize c.toNat % 26 = z0 at *
  obtain ⟨x, ex⟩ : ∃ x : Nat, x0 + 97 = x := ⟨_, rfl⟩
  obtain ⟨y, ey⟩ : ∃ y : Nat, y0 + 97 = y := ⟨_, rfl⟩
  obtain ⟨z, ez⟩ : ∃ z : Nat, z0 + 65 = z := ⟨_, rfl⟩
  have fx : (x0 : Int) + 97 = (x : Int) := by omega
  have fy : (y0 : Int) + 97 = (y : Int) := by omega
  have fz : (z0 : Int) + 65 = (z : Int) := by omega
  go_enter Tryz.func8, Tryz.ntmps8
  go_wp2_with fail
  refine hk.mono ?_
  rintro e w1 ⟨rfl, hb1⟩
  clear hk
  have rx := one_rune w1 (n := x) (by omega)
  have ry := one_rune (w1.alloc (.cells #[.int .i32 (x : Int)] 21)) (n := y) (by omega)
  have rz := one_rune ((w1.alloc (.cells #[.int .i32 (x : Int)] 21)).alloc (.cells #[.int .i32 (y : Int)] 21)) (n := z) (by omega)
  rw [World.size_alloc] at ry rz
  rw [World.size_alloc] at rz
  obtain ⟨xb, hxb⟩ : ∃ xb, x.toUInt8 = xb := ⟨_, rfl⟩
  obtain ⟨yb, hyb⟩ : ∃ yb, y.toUInt8 = yb := ⟨_, rfl⟩
  obtain ⟨zb, hzb⟩ : ∃ zb, z.toUInt8 = zb := ⟨_, rfl⟩
  rw [hxb] at rx
  rw [hyb] at ry
  rw [hzb] at rz
  have bA := (al1 w1 (.cells #[.int .i32 (x : Int)] 21)).trans (((al1 (w1.alloc (.cells #[.int .i32 (x : Int)] 21)) (.cells #[.int .i32 (y : Int)] 21)).mono (by simp)).trans ((al1 ((w1.alloc (.cells #[.int .i32 (x : Int)] 21)).alloc (.cells #[.int .i32 (y : Int)] 21)) (.cells #[.int .i32 (z : Int)] 21)).mono (by simp; omega)))
  have HA := hide bA
  have bx : 97 ≤ xb.toNat ∧ xb.toNat ≤ 122 := by rw [u8_nat (by omega) hxb]; omega
  have by_ : 97 ≤ yb.toNat ∧ yb.toNat ≤ 122 := by rw [u8_nat (by omega) hyb]; omega
  have bz : 65 ≤ zb.toNat ∧ zb.toNat ≤ 90 := by rw [u8_nat (by omega) hzb]; omega
  clear bA
  cases nt with
  | false =>
    go_wp2_with fail
    have hS : bts (({ data := #[91, 39] } : ByteArray) ++ { data := #[xb] } ++ { data := #[45, 39] } ++ { data := #[yb] } ++ { data := #[32, 39] } ++ { data := #[zb] } ++ { data := #[93] }) = sx false xb yb zb := by rfl
    obtain ⟨S, hSe⟩ : ∃ S, ({ data := #[91, 39] } : ByteArray) ++ { data := #[xb] } ++ { data := #[45, 39] } ++ { data := #[yb] } ++ { data := #[32, 39] } ++ { data := #[zb] } ++ { data := #[93] } = S := ⟨_, rfl⟩
    rw [hSe] at hS ⊢
    have hsz : S.size ≤ 39999 := by rw [← bts_len, hS]; simp [sx]
    have HS := hide hS
    clear hS hSe
    obtain ⟨W3, hW3⟩ : ∃ W3, ((w1.alloc (.cells #[.int .i32 (x : Int)] 21)).alloc (.cells #[.int .i32 (y : Int)] 21)).alloc (.cells #[.int .i32 (z : Int)] 21) = W3 := ⟨_, rfl⟩
    rw [hW3] at HA ⊢
    have bW := nx hb1 HA.out
    have hpa := parse_any S hsz W3 (ht.later bW)
    have hpr := parse_sx false bx by_ bz
    rw [u8_nat (by omega) hxb, u8_nat (by omega) hyb, u8_nat (by omega) hzb] at hpr
    rw [HS.out, hpr] at hpa
    clear hpr hW3 HA rx ry rz
    by_cases hxy : (x : Int) ≤ (y : Int)
    · have g1 : decide ((y : Int) < (x : Int)) = false := decide_eq_false (by omega)
      have g2 : decide (y < x) = false := decide_eq_false (by omega)
      rw [if_pos hxy] at hpa
      have HSS := hide (sets_same false [((x : Int), (y : Int)), ((z : Int), (z : Int))])
      have hsl := sets_len false [((x : Int), (y : Int)), ((z : Int), (z : Int))]
      generalize (if false = true then U.S.set (U.S.not (U.S.set [((x : Int), (y : Int)), ((z : Int), (z : Int))])) else U.S.set [((x : Int), (y : Int)), ((z : Int), (z : Int))]) = ss at hpa HSS hsl
      simp only [List.length_cons, List.length_nil] at hsl
      refine hpa.mono ?_
      intro e w2 ha
      obtain ⟨hb2, d, rfl, htr⟩ := ha.ok
      obtain ⟨p1, p2, p3, p4, p5⟩ := htr.parts
      have pk : d.k = 1 := p1
      have ps : d.sl = ss.length := p3
      have pr : U.RdR w2 d.sp ss := p4
      have HT := hide htr
      clear p1 p2 p3 p4 p5 htr ha hpa hxy
      have a1 := al1 w2 (.cells #[.int .i64 1, .int .i64 d.a, .slice d.sp ss.length d.sc, .string d.n, .slice d.kp d.kl d.kc] 26)
      have n1 := heap_alloc_new w2 (.cells #[.int .i64 1, .int .i64 d.a, .slice d.sp ss.length d.sc, .string d.n, .slice d.kp d.kl d.kc] 26)
      obtain ⟨X1, hX1⟩ : ∃ X1, w2.alloc (.cells #[.int .i64 1, .int .i64 d.a, .slice d.sp ss.length d.sc, .string d.n, .slice d.kp d.kl d.kc] 26) = X1 := ⟨_, rfl⟩
      rw [hX1] at a1 n1
      have bX1 := nx bW (nx hb2 a1)
      have r1 := new_rows (w := X1) (x := (x : Int)) (y := (y : Int))
      have a2 := al1 X1 (.cells #[.int .i32 (x : Int), .int .i32 (y : Int)] 51)
      have s2 : (X1.alloc (.cells #[.int .i32 (x : Int), .int .i32 (y : Int)] 51)).heap.size = X1.heap.size + 1 := by simp
      obtain ⟨X2, hX2⟩ : ∃ X2, X1.alloc (.cells #[.int .i32 (x : Int), .int .i32 (y : Int)] 51) = X2 := ⟨_, rfl⟩
      rw [hX2] at r1 a2 s2
      have r2 := new_rows (w := X2) (x := (z : Int)) (y := (z : Int))
      have a3 := al1 X2 (.cells #[.int .i32 (z : Int), .int .i32 (z : Int)] 51)
      obtain ⟨X3, hX3⟩ : ∃ X3, X2.alloc (.cells #[.int .i32 (z : Int), .int .i32 (z : Int)] 51) = X3 := ⟨_, rfl⟩
      rw [hX3] at r2 a3
      have r1' := r1.later a3
      have hun := U.union_any _ _ 1 1 _ _ (by simp) X3 r1' r2
      have eqq : ([((x : Int), (y : Int))] ++ [((z : Int), (z : Int))] : List U.S.R) = [((x : Int), (y : Int)), ((z : Int), (z : Int))] := rfl
      rw [eqq] at hun
      have hql := U.S.set_length [((x : Int), (y : Int)), ((z : Int), (z : Int))]
      simp only [List.length_cons, List.length_nil] at hql
      have HQ : Hid (∀ r, r = (if false = true then U.S.not (U.S.set [((x : Int), (y : Int)), ((z : Int), (z : Int))]) else U.S.set [((x : Int), (y : Int)), ((z : Int), (z : Int))]) → U.S.set ss = U.S.set r) := HSS
      generalize U.S.set [((x : Int), (y : Int)), ((z : Int), (z : Int))] = qs at hun hql HQ
      have bX3 := nx a2 a3
      have bA := hide (nx bX1 bX3)
      have m1 := (bX3.block w2.heap.size (Array.getElem?_eq_some_iff.1 n1).1).trans n1
      have pr3 := pr.later (nx a1 bX3)
      have HT3 := hide (TR.later (fun k hk => (nx a1 bX3).block k hk) _ HT.out)
      have hb13 := hide (nx a1 bX3)
      have hsz2 := hide s2
      have HX3 := hide hX3
      clear HSS r1 r1' r2 a1 a2 a3 n1 bX1 bX3 pr HT eqq s2
      unfold ND.v
      rw [pk, ps]
      go_wp2_with fail
      refine hun.mono ?_
      rintro e X4 ⟨u1, c1, rfl, hr4, hn4, hb4⟩
      have bA4 := hide (nx bA.out hb4)
      have m4 := (hb4.block w2.heap.size (Array.getElem?_eq_some_iff.1 m1).1).trans m1
      have pr4 := pr3.later hb4
      have HT4 := hide (TR.later (fun k hk => hb4.block k hk) _ HT3.out)
      clear hun m1 pr3 HT3 hb4 bA

      obtain ⟨y0, y1, y2, y3, y4⟩ := cells_five m4
      have hsm := U.same_any d.sp u1 d.sc c1 ss qs (by omega) (by omega) X4 pr4 hr4
      go_wp2_with fail
      refine hsm.mono ?_
      rintro e X5 ⟨⟨bb, rfl, hbb⟩, hb5⟩
      obtain rfl : bb = true := hbb.2 (HQ.out _ rfl)
      have bA5 := hide (nx bA4.out hb5)
      have m5 := (hb5.block w2.heap.size (Array.getElem?_eq_some_iff.1 m4).1).trans m4
      have hpl := places_any _ d X5 (TR.later (fun k hk => hb5.block k hk) _ HT4.out) (by simp [E.pre, E.preK])
      rw [show E.cnt (E.pre (.mk 1 0 ss [] []) (.mk 1 0 ss [] [])) = 1 by simp [E.pre, E.preK, E.cnt, T.kind]] at hpl
      unfold ND.v at hpl
      rw [pk, ps] at hpl
      obtain ⟨j0, j1, j2, j3, j4⟩ := cells_five m5
      clear hsm hbb hb5 m4 y0 y1 y2 y3 y4 HT4
      go_wp2_with fail
      refine hpl.mono ?_
      rintro e X6 ⟨rfl, hb6⟩
      have bA6 := nx bA5.out hb6
      clear hpl
      go_wp2
      go_ret
      exact ⟨rfl, bA6⟩
    · have g1 : decide ((y : Int) < (x : Int)) = true := decide_eq_true (by omega)
      have g2 : decide (y < x) = true := decide_eq_true (by omega)
      rw [if_neg hxy] at hpa
      refine hpa.mono ?_
      intro e w2 ha
      obtain ⟨hb2, rfl⟩ := ha.err
      clear hpa ha
      have bX := nx bW (nx hb2 (al1 w2 (.cells #[.int .i64 0, .int .i64 0, .slice none 0 0, .string ⟨#[]⟩, .slice none 0 0] 26)))
      unfold zN
      go_wp2
      go_ret
      exact ⟨rfl, bX⟩
  | true =>
    go_wp2_with fail
    have hS : bts (({ data := #[91, 94] } : ByteArray) ++ (({ data := #[91, 39] } : ByteArray) ++ { data := #[xb] } ++ { data := #[45, 39] } ++ { data := #[yb] } ++ { data := #[32, 39] } ++ { data := #[zb] } ++ { data := #[93] }).extract 1 10) = sx true xb yb zb := by rfl
    obtain ⟨S, hSe⟩ : ∃ S, ({ data := #[91, 94] } : ByteArray) ++ (({ data := #[91, 39] } : ByteArray) ++ { data := #[xb] } ++ { data := #[45, 39] } ++ { data := #[yb] } ++ { data := #[32, 39] } ++ { data := #[zb] } ++ { data := #[93] }).extract 1 10 = S := ⟨_, rfl⟩
    rw [hSe] at hS ⊢
    have hsz : S.size ≤ 39999 := by rw [← bts_len, hS]; simp [sx]
    have HS := hide hS
    clear hS hSe
    obtain ⟨W3, hW3⟩ : ∃ W3, ((w1.alloc (.cells #[.int .i32 (x : Int)] 21)).alloc (.cells #[.int .i32 (y : Int)] 21)).alloc (.cells #[.int .i32 (z : Int)] 21) = W3 := ⟨_, rfl⟩
    rw [hW3] at HA ⊢
    have bW := nx hb1 HA.out
    have hpa := parse_any S hsz W3 (ht.later bW)
    have hpr := parse_sx true bx by_ bz
    rw [u8_nat (by omega) hxb, u8_nat (by omega) hyb, u8_nat (by omega) hzb] at hpr
    rw [HS.out, hpr] at hpa
    clear hpr hW3 HA rx ry rz
    by_cases hxy : (x : Int) ≤ (y : Int)
    · have g1 : decide ((y : Int) < (x : Int)) = false := decide_eq_false (by omega)
      have g2 : decide (y < x) = false := decide_eq_false (by omega)
      rw [if_pos hxy] at hpa
      have HSS := hide (sets_same true [((x : Int), (y : Int)), ((z : Int), (z : Int))])
      have hsl := sets_len true [((x : Int), (y : Int)), ((z : Int), (z : Int))]
      generalize (if true = true then U.S.set (U.S.not (U.S.set [((x : Int), (y : Int)), ((z : Int), (z : Int))])) else U.S.set [((x : Int), (y : Int)), ((z : Int), (z : Int))]) = ss at hpa HSS hsl
      simp only [List.length_cons, List.length_nil] at hsl
      refine hpa.mono ?_
      intro e w2 ha
      obtain ⟨hb2, d, rfl, htr⟩ := ha.ok
      obtain ⟨p1, p2, p3, p4, p5⟩ := htr.parts
      have pk : d.k = 1 := p1
      have ps : d.sl = ss.length := p3
      have pr : U.RdR w2 d.sp ss := p4
      have HT := hide htr
      clear p1 p2 p3 p4 p5 htr ha hpa hxy
      have a1 := al1 w2 (.cells #[.int .i64 1, .int .i64 d.a, .slice d.sp ss.length d.sc, .string d.n, .slice d.kp d.kl d.kc] 26)
      have n1 := heap_alloc_new w2 (.cells #[.int .i64 1, .int .i64 d.a, .slice d.sp ss.length d.sc, .string d.n, .slice d.kp d.kl d.kc] 26)
      obtain ⟨X1, hX1⟩ : ∃ X1, w2.alloc (.cells #[.int .i64 1, .int .i64 d.a, .slice d.sp ss.length d.sc, .string d.n, .slice d.kp d.kl d.kc] 26) = X1 := ⟨_, rfl⟩
      rw [hX1] at a1 n1
      have bX1 := nx bW (nx hb2 a1)
      have r1 := new_rows (w := X1) (x := (x : Int)) (y := (y : Int))
      have a2 := al1 X1 (.cells #[.int .i32 (x : Int), .int .i32 (y : Int)] 51)
      have s2 : (X1.alloc (.cells #[.int .i32 (x : Int), .int .i32 (y : Int)] 51)).heap.size = X1.heap.size + 1 := by simp
      obtain ⟨X2, hX2⟩ : ∃ X2, X1.alloc (.cells #[.int .i32 (x : Int), .int .i32 (y : Int)] 51) = X2 := ⟨_, rfl⟩
      rw [hX2] at r1 a2 s2
      have r2 := new_rows (w := X2) (x := (z : Int)) (y := (z : Int))
      have a3 := al1 X2 (.cells #[.int .i32 (z : Int), .int .i32 (z : Int)] 51)
      obtain ⟨X3, hX3⟩ : ∃ X3, X2.alloc (.cells #[.int .i32 (z : Int), .int .i32 (z : Int)] 51) = X3 := ⟨_, rfl⟩
      rw [hX3] at r2 a3
      have r1' := r1.later a3
      have hun := U.union_any _ _ 1 1 _ _ (by simp) X3 r1' r2
      have eqq : ([((x : Int), (y : Int))] ++ [((z : Int), (z : Int))] : List U.S.R) = [((x : Int), (y : Int)), ((z : Int), (z : Int))] := rfl
      rw [eqq] at hun
      have hql := U.S.set_length [((x : Int), (y : Int)), ((z : Int), (z : Int))]
      simp only [List.length_cons, List.length_nil] at hql
      have HQ : Hid (∀ r, r = (if true = true then U.S.not (U.S.set [((x : Int), (y : Int)), ((z : Int), (z : Int))]) else U.S.set [((x : Int), (y : Int)), ((z : Int), (z : Int))]) → U.S.set ss = U.S.set r) := HSS
      generalize U.S.set [((x : Int), (y : Int)), ((z : Int), (z : Int))] = qs at hun hql HQ
      have bX3 := nx a2 a3
      have bA := hide (nx bX1 bX3)
      have m1 := (bX3.block w2.heap.size (Array.getElem?_eq_some_iff.1 n1).1).trans n1
      have pr3 := pr.later (nx a1 bX3)
      have HT3 := hide (TR.later (fun k hk => (nx a1 bX3).block k hk) _ HT.out)
      have hb13 := hide (nx a1 bX3)
      have hsz2 := hide s2
      have HX3 := hide hX3
      clear HSS r1 r1' r2 a1 a2 a3 n1 bX1 bX3 pr HT eqq s2
      unfold ND.v
      rw [pk, ps]
      go_wp2_with fail
      refine hun.mono ?_
      rintro e X4 ⟨u1, c1, rfl, hr4, hn4, hb4⟩
      have bA4 := hide (nx bA.out hb4)
      have m4 := (hb4.block w2.heap.size (Array.getElem?_eq_some_iff.1 m1).1).trans m1
      have pr4 := pr3.later hb4
      have HT4 := hide (TR.later (fun k hk => hb4.block k hk) _ HT3.out)
      clear hun m1 pr3 HT3 hb4 bA
      have hnt := U.not_any u1 c1 qs (by omega) X4 hr4
      have hnl := not_lenS qs
      have HQ : Hid (∀ r, r = U.S.not qs → U.S.set ss = U.S.set r) := HQ
      generalize U.S.not qs = ns at hnt hnl HQ
      have hnl2 : ns.length ≤ 10 := by omega
      go_wp2_with fail
      refine hnt.mono ?_
      rintro e X4 ⟨u1, c1, rfl, hr4, hn4, hb4⟩
      have bA4 := hide (nx bA4.out hb4)
      have m4 := (hb4.block w2.heap.size (Array.getElem?_eq_some_iff.1 m4).1).trans m4
      have pr4 := pr4.later hb4
      have HT4 := hide (TR.later (fun k hk => hb4.block k hk) _ HT4.out)
      obtain ⟨y0, y1, y2, y3, y4⟩ := cells_five m4
      have hsm := U.same_any d.sp u1 d.sc c1 ss ns (by omega) (by omega) X4 pr4 hr4
      go_wp2_with fail
      refine hsm.mono ?_
      rintro e X5 ⟨⟨bb, rfl, hbb⟩, hb5⟩
      obtain rfl : bb = true := hbb.2 (HQ.out _ rfl)
      have bA5 := hide (nx bA4.out hb5)
      have m5 := (hb5.block w2.heap.size (Array.getElem?_eq_some_iff.1 m4).1).trans m4
      have hpl := places_any _ d X5 (TR.later (fun k hk => hb5.block k hk) _ HT4.out) (by simp [E.pre, E.preK])
      rw [show E.cnt (E.pre (.mk 1 0 ss [] []) (.mk 1 0 ss [] [])) = 1 by simp [E.pre, E.preK, E.cnt, T.kind]] at hpl
      unfold ND.v at hpl
      rw [pk, ps] at hpl
      obtain ⟨j0, j1, j2, j3, j4⟩ := cells_five m5
      clear hsm hbb hb5 m4 y0 y1 y2 y3 y4 HT4
      go_wp2_with fail
      refine hpl.mono ?_
      rintro e X6 ⟨rfl, hb6⟩
      have bA6 := nx bA5.out hb6
      clear hpl
      go_wp2
      go_ret
      exact ⟨rfl, bA6⟩
    · have g1 : decide ((y : Int) < (x : Int)) = true := decide_eq_true (by omega)
      have g2 : decide (y < x) = true := decide_eq_true (by omega)
      rw [if_neg hxy] at hpa
      refine hpa.mono ?_
      intro e w2 ha
      obtain ⟨hb2, rfl⟩ := ha.err
      clear hpa ha
      have bX := nx bW (nx hb2 (al1 w2 (.cells #[.int .i64 0, .int .i64 0, .slice none 0 0, .string ⟨#[]⟩, .slice none 0 0] 26)))
      unfold zN
      go_wp2
      go_ret
      exact ⟨rfl, bX⟩
theorem sets_u8 (n m k : Int) (h1 : 0 ≤ n ∧ n ≤ 255) (h2 : 0 ≤ m ∧ m ≤ 255) (h3 : 0 ≤ k ∧ k ≤ 255) (nt : Bool) (w : World) (ht : Tabs w) (hd : Deb w) : Calls Tryz.prog 8 #[.int .u8 n, .int .u8 m, .int .u8 k, .bool nt] w fun e w' => e = .returned (.bool true) ∧ Below w.heap.size w w' := by
  have hn : ∀ n : Int, 0 ≤ n ∧ n ≤ 255 → ((UInt8.ofNat n.toNat).toNat : Int) = n := fun n h => by
    rw [UInt8.toNat_ofNat']
    omega
  have := sets_any (UInt8.ofNat n.toNat) (UInt8.ofNat m.toNat) (UInt8.ofNat k.toNat) nt w ht hd
  rw [hn n h1, hn m h2, hn k h3] at this
  exact this
end Go.Proofs.YtamhjnemmdcniaaGreatDoor
