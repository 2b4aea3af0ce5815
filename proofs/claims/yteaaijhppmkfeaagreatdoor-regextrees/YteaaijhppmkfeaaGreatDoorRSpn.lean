/- span and item of regex's reader. -/
import Derived.Test.YteaaijhppmkfeaaGreatDoorRLf2
import Derived.Test.YteaaijhppmkfeaaGreatDoorRJF
import Derived.Test.YteaaijhppmkfeaaGreatDoorRJG
namespace Go.Proofs.YteaaijhppmkfeaaGreatDoor
open Go.RowKit
open E (T tk isS rpt beg)
theorem Reg.brC {P : Program} {ops : Array Oper} {Q : Exit → Act → World → Prop} {a : Act} {B fuel : Nat} {ks : List Nat} {l : List (Nat × Value)} {w : World} (i : Nat) (o : Oper) (d f : Nat) (xs : Array Operand) (ats : Array TypeId) (vs : Array Value) (hi : ops[i]? = some o) (hd : o.dst = some d) (hb : Reg.inB a l = true) (hw : Reg.wantB ops a l o = true)
   (hop : o.op = .call { callee := .value (.func f), args := xs, argTypes := ats }) (hvs : #[] ++ xs.map (Reg.ev a l) ++ #[] = vs) (hent : (callFunc f vs).run P w = .ok (.enter f vs) w)
   {R : Ending → World → Prop} (hc : Calls P f vs w R) (hR : ∀ e w', R e w' → ∃ v B', e = .returned v ∧ B ≤ B' ∧ Below B w w' ∧ Reg.G P ops Q a B' fuel (i :: ks) ((d, v) :: l) w') : Reg.Br P ops Q a B fuel ks l w i := by
 unfold Reg.Br wpOp
 simp only [hi]
 rw [if_pos (Reg.wanted_of ops a l o hb hw)]
 refine .inl ?_
 unfold Oper.wp
 have he : (execOp (Reg.ev a l) o).run P w = .ok (.enter f vs) w := by
   obtain ⟨dst, op, type, pos, after, guard⟩ := o
   simp only at hop
   subst hop
   show (callFunc f (#[] ++ xs.map (Reg.ev a l) ++ #[])).run P w = _
   rw [hvs]
   exact hent
 rw [Reg.ov_eval a l hb, he]
 simp only [Oper.upon]
 refine hc.mono fun e w' hr' => ?_
 obtain ⟨v, B', rfl, hBB, hbl, hg⟩ := hR e w' hr'
 simp only [hd]
 exact ⟨hbl, Reg.mono_held (fun x hx => hbl.trans (hx.mono hBB)) _ _ _ _ hg⟩
theorem normL_eq (xs : E.Rs) : U.normL xs = E.nL xs := rfl
theorem normE_eq (xs : E.Rs) : U.normE xs = (E.nE xs : Int) := by
 unfold U.normE E.nE
 split <;> rfl
theorem n_one {a b : Int} (h0 : 0 ≤ a) (h1 : a ≤ b) (h2 : b ≤ 1114111) : E.nL [(a, b)] = [(a, b)] ∧ E.nE [(a, b)] = 0 := by
 have hg : U.S.good (a, b) = true := (U.S.good_iff _).2 ⟨h0, h1, h2⟩
 have hs := U.S.set_self (U.S.canon_one hg)
 constructor
 · unfold E.nL
   rw [if_pos ⟨by simp [hg], by rw [hs]; simp⟩, hs]
 · unfold E.nE
   rw [if_pos ⟨by simp [hg], by rw [hs]; simp⟩]
theorem n_bad {a b : Int} (h1 : b < a) : E.nE [(a, b)] = 30 := by
 unfold E.nE
 rw [if_neg]
 rintro ⟨h, _⟩
 have := (U.S.good_iff (a, b)).1 (by simpa using h)
 have h4 : a ≤ b := this.2.1
 omega
def AnsI (r : Except (Nat × Nat) (E.Rs × Nat)) (R : Nat) (ao : Option Addr) (cap : Nat) (l : List E.Tok) (o : Nat) (w : World) (e : Ending) (w' : World) : Prop :=
 Kp w.heap.size R w w' ∧ ((∃ s j sp sc, r = .ok (s, j) ∧ e = .returned (.tuple #[.slice sp s.length sc, .int .i64 0]) ∧ U.RdR w' sp s ∧ (sp = none → sc = 0) ∧ Rdr w' R ao cap l j o) ∨
   ∃ c j sp sl sc, r = .error (c, j) ∧ e = .returned (.tuple #[.slice sp sl sc, .int .i64 (c : Int)]) ∧ (((c : Int) != 0) = true) ∧ Rdr w' R ao cap l j o)
theorem Kp.keep {w W : World} {x b : Nat} {o : Obj} (h : Kp w.heap.size x w W) (hb : w.heap[b]? = some o) (hx : b ≠ x) : W.heap[b]? = some o := h.tabs (Nat.le_refl _) hb hx
theorem Rdr.tbox {w : World} {R x : Nat} {ao : Option Addr} {cap : Nat} {l : List E.Tok} {i o : Nat} (h : Rdr w R ao cap l i o) (hx : R < x) (a c r : Int) (s : ByteArray) : Rdr (putT w x a c s r) R ao cap l i o :=
 h.but (fun _ _ hk => putT_other hk) hx
theorem putT_kp {n x : Nat} {w0 w : World} {b : Nat} {a c r : Int} {s : ByteArray} (h : Kp n x w0 w) (hb : n ≤ b) : Kp n x w0 (putT w b a c s r) :=
 ((((h.set (p := ⟨b, 0, none⟩) (.inr hb) _).set (p := ⟨b, 1, none⟩) (.inr hb) _).set (p := ⟨b, 2, none⟩) (.inr hb) _).set (p := ⟨b, 3, none⟩) (.inr hb) _)
theorem putT_size (w : World) (b : Nat) (a c r : Int) (s : ByteArray) : (putT w b a c s r).heap.size = w.heap.size := by simp [putT, World.setCell]
set_option maxRecDepth 100000 in
set_option maxHeartbeats 2000000 in
theorem span_any {w : World} {R : Nat} {ao : Option Addr} {cap : Nat} {l : List E.Tok} {i o : Nat} (h : Rdr w R ao cap l i o) (hl : l.length ≤ 1000000) (hg : E.Good l) (h4 : (tk l i).1.kind = 4) :
   Calls Tryz.prog 233 #[.pointer (some ⟨R, 0, none⟩)] w (AnsI (E.item l i) R ao cap l o w) := by
 have hi : i < l.length := E.tk_lt (by omega)
 have HI : Hid (E.item l i = _) := hide (by unfold E.item; rw [if_pos h4])
 generalize E.item l i = r at *
 clear h4
 obtain ⟨c0, c1, c2⟩ := h.cells
 have hRl := h.lt
 go_enter Tryz.func233, Tryz.ntmps233
 go_wp2_with fail
 rename_i K hK
 have key : ∀ (b5 : Nat) (W1 : World), w.heap.size ≤ b5 → W1.heap[b5]? = some (.cells #[.int .i64 ((tk l i).1.kind : Int), .int .i64 ((tk l i).2 : Int), .string ⟨(tk l i).1.text.toArray⟩, .int .i32 (tk l i).1.r] 77) → Below w.heap.size w W1 →
     K { tmps := #[.pointer (some ⟨R, 0, none⟩), undef, .slice none 0 0, .int .i64 0, .int .i64 (i : Int), .pointer (some ⟨b5, 0, none⟩), undef, undef, undef, .pointer (some ⟨R, 0, none⟩), .pointer (some ⟨R, 0, none⟩), .pointer (some ⟨R, 1, none⟩), .int .i64 (i : Int), .pointer (some ⟨R, 0, none⟩), tokV (tk l i).1 (tk l i).2, undef, undef, undef, undef, undef, undef, undef, undef, undef, undef, undef, undef, undef, undef, undef, undef, undef, undef, undef, undef, undef, undef, undef, undef, undef, undef, undef, undef, undef, undef, undef, undef, undef, undef, undef, undef, undef], defers := [] } W1 := by
   intro b5 W1 hb5 hx5 hB1
   apply hK
   obtain ⟨t, ht⟩ : ∃ t, tk l i = t := ⟨_, rfl⟩
   have hgt := E.tk_good hg i
   rw [ht] at hx5 hgt ⊢
   obtain ⟨a0, a1, a2, a3⟩ := cells_four hx5
   have hR1 : Rdr W1 R ao cap l i o := h.later hB1
   have hb5' : b5 < W1.heap.size := (Array.getElem?_eq_some_iff.1 hx5).1
   have hx6 := heap_alloc_new W1 (.cells #[.int .i64 (t.1.kind : Int), .int .i64 (t.2 : Int), .string ⟨t.1.text.toArray⟩, .int .i32 t.1.r] 77)
   have hB2 := hB1.alloc hB1.size (.cells #[.int .i64 (t.1.kind : Int), .int .i64 (t.2 : Int), .string ⟨t.1.text.toArray⟩, .int .i32 t.1.r] 77)
   have hR2 := hR1.later (al1 W1 (.cells #[.int .i64 (t.1.kind : Int), .int .i64 (t.2 : Int), .string ⟨t.1.text.toArray⟩, .int .i32 t.1.r] 77))
   have hx5b := (Below.heap_alloc W1 (.cells #[.int .i64 (t.1.kind : Int), .int .i64 (t.2 : Int), .string ⟨t.1.text.toArray⟩, .int .i32 t.1.r] 77) b5 hb5').trans hx5
   obtain ⟨W2, hW2⟩ : ∃ W2, W1.alloc (.cells #[.int .i64 (t.1.kind : Int), .int .i64 (t.2 : Int), .string ⟨t.1.text.toArray⟩, .int .i32 t.1.r] 77) = W2 := ⟨_, rfl⟩
   rw [hW2] at hx6 hB2 hR2 hx5b
   have hs1 := hB1.size
   obtain ⟨d0, d1, d2⟩ := hR2.cells
   have f1 := hR2.frz 1
   have hR3 := hR2.put (i + 1)
   have hx6c := (Below.heap_setCell W2 ⟨R, 1, none⟩ (.int .i64 ((i + 1 : Nat) : Int)) W1.heap.size (by show W1.heap.size ≠ R; omega)).trans hx6
   have hx5c := (Below.heap_setCell W2 ⟨R, 1, none⟩ (.int .i64 ((i + 1 : Nat) : Int)) b5 (by show b5 ≠ R; omega)).trans hx5b
   have hk3 := (Kp.of (x := R) hB2).set (p := ⟨R, 1, none⟩) (.inl rfl) (.int .i64 ((i + 1 : Nat) : Int))
   have HE : ((i + 1 : Nat) : Int) = (i : Int) + 1 := by omega
   rw [HE] at hR3 hx6c hx5c hk3
   obtain ⟨W3, hW3⟩ : ∃ W3, W2.setCell ⟨R, 1, none⟩ (.int .i64 ((i : Int) + 1)) = W3 := ⟨_, rfl⟩
   rw [hW3] at hR3 hx6c hx5c hk3
   have htk := take_any hR3 hl [45]
   have HQ := hide hx6
   have HK2 := hide hk3
   have hs3 := hk3.size
   clear hx5 hx5b hx6 hk3 HE hR1 hR2 hB1 hB2
   unfold tokV
   cases hm : isS (tk l (i + 1)) [45] with
   | false =>
     rw [hm, if_neg (by decide)] at htk
     have HO : Hid (r = .ok ([(t.1.r, t.1.r)], i + 1)) := hide (by rw [HI.out, ht, hm]; rfl)
     clear HI hm
     go_wp2_with fail
     refine htk.mono ?_
     rintro e W4 ⟨rfl, hR4, hk4⟩
     have hy5 := hk4.keep hx5c (by omega)
     have hy6 := hk4.keep hx6c (by omega)
     obtain ⟨p0, p1, p2, p3⟩ := cells_four hy5
     obtain ⟨q0, q1, q2, q3⟩ := cells_four hy6
     have hone := oneRange_any t t W4
     have HK4 := hide (HK2.out.nx hs3 hk4)
     clear hk4 HK2
     unfold tokV at hone
     go_wp2_with fail
     refine hone.mono ?_
     rintro e W5 ⟨ap, rfl, hrd, hb5x⟩
     have hnm := U.norm_any ap 1 [(t.1.r, t.1.r)] (by simp) W5 hrd
     rw [normL_eq, normE_eq, (n_one hgt.1 (Int.le_refl _) hgt.2.1).1, (n_one hgt.1 (Int.le_refl _) hgt.2.1).2] at hnm
     go_wp2_with fail
     refine hnm.mono ?_
     rintro e W6 ⟨sp, sc, rfl, hr6, hn6, hb6⟩
     have hB := nx hb5x hb6
     have hR6 := hR4.later hB
     have HN := hide hn6
     clear hn6
     go_wp2
     exact bodyPost_ret (v := .tuple #[.slice sp 1 sc, .int .i64 0]) (by simp [results, Tryz.results233, go_sem]) rfl ⟨HK4.out.nb (by have := HK4.out.size; omega) hB, .inl ⟨_, i + 1, sp, sc, HO.out, rfl, hr6, HN.out, hR6⟩⟩
   | true =>
     rw [hm, if_pos rfl] at htk
     have hgu := E.tk_good hg (i + 2)
     have hiu : i + 1 < l.length := E.isS_lt hm
     have HI2 : Hid (r = if (tk l (i + 2)).1.kind = 4 then if t.1.r ≤ (tk l (i + 2)).1.r then .ok ([(t.1.r, (tk l (i + 2)).1.r)], i + 3) else .error (30, i) else .error (70, i + 2)) := hide (by rw [HI.out, ht, hm]; rfl)
     clear HI hm
     go_wp2_with fail
     refine htk.mono ?_
     rintro e W4 ⟨rfl, hR4, hk4⟩
     have hy5 := hk4.keep hx5c (by omega)
     have hy6 := hk4.keep hx6c (by omega)
     have HK4 := hide (HK2.out.nx hs3 hk4)
     have hs4 := hk4.size
     clear hk4 HK2
     have hnx := next_any hR4
     rw [show i + 1 + 1 = i + 2 from rfl] at hnx hR4
     obtain ⟨u, hu⟩ : ∃ u, tk l (i + 2) = u := ⟨_, rfl⟩
     rw [hu] at hnx HI2 hgu
     unfold tokV at hnx
     go_wp2_with fail
     refine hnx.mono ?_
     rintro e W5 ⟨rfl, hb5x⟩
     have hR5 := hR4.later hb5x
     have hz5 := (hb5x.block b5 (Array.getElem?_eq_some_iff.1 hy5).1).trans hy5
     have hz6 := (hb5x.block W1.heap.size (Array.getElem?_eq_some_iff.1 hy6).1).trans hy6
     obtain ⟨q0, q1, q2, q3⟩ := cells_four hz6
     have g0 := frozen_row hz6 0
     have g1 := frozen_row hz6 1
     have g2 := frozen_row hz6 2
     have g3 := frozen_row hz6 3
     have hp6 := putT_box (a := (u.1.kind : Int)) (c := (u.2 : Int)) (s := ⟨u.1.text.toArray⟩) (r := u.1.r) hz6
     have hp5 := (putT_other (w := W5) (b := W1.heap.size) (k := b5) (a := (u.1.kind : Int)) (c := (u.2 : Int)) (s := ⟨u.1.text.toArray⟩) (r := u.1.r) (by omega)).trans hz5
     have hRp := hR5.tbox (x := W1.heap.size) (by omega) (u.1.kind : Int) (u.2 : Int) u.1.r ⟨u.1.text.toArray⟩
     have HKp := hide (putT_kp (b := W1.heap.size) (a := (u.1.kind : Int)) (c := (u.2 : Int)) (s := ⟨u.1.text.toArray⟩) (r := u.1.r) (HK4.out.nb (by have := HK4.out.size; omega) hb5x) hs1)
     have hpz := putT_size W5 W1.heap.size (u.1.kind : Int) (u.2 : Int) u.1.r ⟨u.1.text.toArray⟩
     unfold putT at hp6 hp5 hRp HKp hpz
     have hs5 := hb5x.size
     clear HK4 hz5 hz6 hy5 hy6 hR5 hR4 hR3
     obtain ⟨W6, hW6⟩ : ∃ W6, (((W5.setCell ⟨W1.heap.size, 0, none⟩ (.int .i64 (u.1.kind : Int))).setCell ⟨W1.heap.size, 1, none⟩ (.int .i64 (u.2 : Int))).setCell ⟨W1.heap.size, 2, none⟩ (.string ⟨u.1.text.toArray⟩)).setCell ⟨W1.heap.size, 3, none⟩ (.int .i32 u.1.r) = W6 := ⟨_, rfl⟩
     rw [hW6] at hp6 hp5 hRp HKp hpz
     obtain ⟨y0, y1, y2, y3⟩ := cells_four hp6
     obtain ⟨x0, x1, x2, x3⟩ := cells_four hp5
     obtain ⟨j, HJ⟩ : ∃ j, Hid (i + 2 = j) := ⟨_, hide rfl⟩
     rw [HJ.out] at hRp
     have hj : j ≤ 2000000 := by have := HJ.out; omega
     obtain ⟨d0', d1', d2'⟩ := hRp.cells
     have f1' := hRp.frz 1
     by_cases hk : u.1.kind = 4
     · have ek : ((u.1.kind : Int) != 4) = false := by simp [hk]
       rw [if_pos hk] at HI2
       clear hk
       have hR7 := hRp.put (j + 1)
       have hp6c := (Below.heap_setCell W6 ⟨R, 1, none⟩ (.int .i64 ((j + 1 : Nat) : Int)) W1.heap.size (by show W1.heap.size ≠ R; omega)).trans hp6
       have hp5c := (Below.heap_setCell W6 ⟨R, 1, none⟩ (.int .i64 ((j + 1 : Nat) : Int)) b5 (by show b5 ≠ R; omega)).trans hp5
       have HK7 := hide (HKp.out.set (p := ⟨R, 1, none⟩) (.inl rfl) (.int .i64 ((j + 1 : Nat) : Int)))
       have HE : ((j + 1 : Nat) : Int) = (j : Int) + 1 := by omega
       rw [HE] at hR7 hp6c hp5c HK7
       clear HE
       obtain ⟨W7, hW7⟩ : ∃ W7, W6.setCell ⟨R, 1, none⟩ (.int .i64 ((j : Int) + 1)) = W7 := ⟨_, rfl⟩
       rw [hW7] at hR7 hp6c hp5c HK7
       obtain ⟨y0', y1', y2', y3'⟩ := cells_four hp6c
       obtain ⟨x0', x1', x2', x3'⟩ := cells_four hp5c
       have hone := oneRange_any t u W7
       unfold tokV at hone
       go_wp2_with fail
       refine hone.mono ?_
       rintro e W8 ⟨ap, rfl, hrd, hb8⟩
       have hnm := U.norm_any ap 1 [(t.1.r, u.1.r)] (by simp) W8 hrd
       rw [normL_eq, normE_eq] at hnm
       by_cases hle : t.1.r ≤ u.1.r
       · rw [if_pos hle] at HI2
         rw [(n_one hgt.1 hle hgu.2.1).1, (n_one hgt.1 hle hgu.2.1).2] at hnm
         clear hle
         go_wp2_with fail
         refine hnm.mono ?_
         rintro e W9 ⟨sp, sc, rfl, hr6, hn6, hb6⟩
         have hB := nx hb8 hb6
         have hR6 := hR7.later hB
         have HN := hide hn6
         clear hn6
         go_wp2
         exact bodyPost_ret (v := .tuple #[.slice sp 1 sc, .int .i64 0]) (by simp [results, Tryz.results233, go_sem]) rfl ⟨HK7.out.nb (by have := HK7.out.size; omega) hB, .inl ⟨_, j + 1, sp, sc, by rw [← HJ.out]; exact HI2.out, rfl, hr6, HN.out, hR6⟩⟩
       · rw [if_neg hle] at HI2
         rw [n_bad (by omega)] at hnm
         clear hle
         go_wp2_with fail
         refine hnm.mono ?_
         rintro e W9 ⟨sp, sc, rfl, hr6, hn6, hb6⟩
         have hB := nx hb8 hb6
         have hR6 := hR7.later hB
         obtain ⟨z0, z1, z2⟩ := hR6.cells
         have z3 := hR6.frz 1
         have hR9 := hR6.put i
         have HK9 := hide ((HK7.out.nb (by have := HK7.out.size; omega) hB).set (p := ⟨R, 1, none⟩) (.inl rfl) (.int .i64 (i : Int)))
         clear hn6
         go_wp2
         exact bodyPost_ret (v := .tuple #[.slice sp (E.nL [(t.1.r, u.1.r)]).length sc, .int .i64 30]) (by simp [results, Tryz.results233, go_sem]) rfl ⟨HK9.out, .inr ⟨30, i, sp, _, sc, HI2.out, rfl, rfl, hR9⟩⟩
     · have ek : ((u.1.kind : Int) != 4) = true := by simp; omega
       rw [if_neg hk] at HI2
       clear hk
       go_wp2
       exact bodyPost_ret (v := .tuple #[.slice none 0 0, .int .i64 70]) (by simp [results, Tryz.results233, go_sem]) rfl ⟨HKp.out, .inr ⟨70, j, none, 0, 0, by rw [← HJ.out]; exact HI2.out, rfl, rfl, hRp⟩⟩
 refine Reg.start (B := w.heap.size) (by kernel_rfl) ?_
 refine Reg.take (fun _ _ _ _ _ h => h) 0 _ 9 (.pointer (some ⟨R, 0, none⟩)) rfl (by kernel_rfl) (by kernel_rfl) (by kernel_rfl) rfl (by kernel_rfl) (by kernel_rfl) (fun wx hb => by kernel_rfl) ?_
 refine Reg.take (fun _ _ _ _ _ h => h) 1 _ 10 (.pointer (some ⟨R, 0, none⟩)) rfl (by kernel_rfl) (by kernel_rfl) (by kernel_rfl) rfl (by kernel_rfl) (by kernel_rfl) (fun wx hb => by kernel_rfl) ?_
 refine Reg.take (fun _ _ _ _ _ h => h) 2 _ 11 (.pointer (some ⟨R, 1, none⟩)) rfl (by kernel_rfl) (by kernel_rfl) (by kernel_rfl) rfl (by kernel_rfl) (by kernel_rfl) (fun wx hb => by kernel_rfl) ?_
 refine Reg.take (fun _ _ _ _ _ h => h) 3 _ 12 (.int .i64 (i : Int)) rfl (by kernel_rfl) (by kernel_rfl) (by kernel_rfl) rfl (by kernel_rfl) (by kernel_rfl) (fun wx hb => Reg.ld1 rfl (by kernel_rfl) ((hb.cell hRl).trans c1) (Tryz.isAgg3 _)) ?_
 refine Reg.take (fun _ _ _ _ _ h => h) 4 _ 13 (.pointer (some ⟨R, 0, none⟩)) rfl (by kernel_rfl) (by kernel_rfl) (by kernel_rfl) rfl (by kernel_rfl) (by kernel_rfl) (fun wx hb => by kernel_rfl) ?_
 refine Reg.two 5 6 (by kernel_rfl) ?_ ?_
 · refine Reg.brC 5 _ 14 152 _ _ #[.pointer (some ⟨R, 0, none⟩)] rfl rfl (by kernel_rfl) (by kernel_rfl) rfl (by kernel_rfl) (by kernel_rfl) (next_any (w := w.drew) (h.later (Below.refl _ w).drew)) ?_
   rintro e w1 ⟨rfl, hb1⟩
   have hb1' : Below w.heap.size w w1 := (Below.refl _ w).drew.trans hb1
   refine ⟨_, w.heap.size, rfl, Nat.le_refl _, hb1, ?_⟩
   refine Reg.one 6 (by kernel_rfl) (Reg.brV 6 _ 5 rfl rfl (by kernel_rfl) (by kernel_rfl) ⟨.pointer (some ⟨w1.heap.size, 0, none⟩), w1.alloc room, w.heap.size, by kernel_rfl, Nat.le_refl _, (Below.refl _ _).alloc hb1.size _, ?_⟩)
   refine Reg.one 7 (by kernel_rfl) (Reg.brV 7 _ 4 rfl rfl (by kernel_rfl) (by kernel_rfl) ⟨.int .i64 (i : Int), w1.alloc room, w.heap.size, by kernel_rfl, Nat.le_refl _, Below.refl _ _, ?_⟩)
   refine Reg.onlyS 8 _ rfl (by kernel_rfl) rfl (by kernel_rfl) (by kernel_rfl) ⟨_, w.heap.size, Reg.stT rfl rfl rfl (heap_alloc_new w1 _), Nat.le_refl _, putT_below (Below.refl _ _) hb1.size, ?_⟩
   refine Reg.done (by kernel_rfl) ?_
   simp only [Reg.ov, Act.put, List.setIfInBounds_toArray, List.set_cons_succ, List.set_cons_zero]
   exact key w1.heap.size _ hb1.size (putT_box (heap_alloc_new w1 _)) (putT_below (hb1'.alloc hb1'.size _) hb1'.size)
 · refine Reg.brV 6 _ 5 rfl rfl (by kernel_rfl) (by kernel_rfl) ⟨.pointer (some ⟨w.heap.size, 0, none⟩), w.drew.alloc room, w.heap.size, by kernel_rfl, Nat.le_refl _, (Below.refl w.heap.size w.drew).alloc (Nat.le_refl w.heap.size) _, ?_⟩
   have hw0 : Below w.heap.size w (w.drew.alloc room) := (Below.refl _ w).drew.alloc (Nat.le_refl _) _
   refine Reg.one 5 (by kernel_rfl) (Reg.brC 5 _ 14 152 _ _ #[.pointer (some ⟨R, 0, none⟩)] rfl rfl (by kernel_rfl) (by kernel_rfl) rfl (by kernel_rfl) (by kernel_rfl) (next_any (w := w.drew.alloc room) (h.later hw0)) ?_)
   rintro e w1 ⟨rfl, hb1⟩
   have hx1 : w1.heap[w.heap.size]? = some room := (hb1.block w.heap.size (by simp)).trans (heap_alloc_new w.drew _)
   have hb1' : Below w.heap.size w w1 := hw0.trans (hb1.mono (by simp))
   refine ⟨_, w.heap.size, rfl, Nat.le_refl _, hb1.mono (by simp), ?_⟩
   refine Reg.one 7 (by kernel_rfl) (Reg.brV 7 _ 4 rfl rfl (by kernel_rfl) (by kernel_rfl) ⟨.int .i64 (i : Int), w1, w.heap.size, by kernel_rfl, Nat.le_refl _, Below.refl _ _, ?_⟩)
   refine Reg.onlyS 8 _ rfl (by kernel_rfl) rfl (by kernel_rfl) (by kernel_rfl) ⟨_, w.heap.size, Reg.stT rfl rfl rfl hx1, Nat.le_refl _, putT_below (Below.refl _ _) (Nat.le_refl _), ?_⟩
   refine Reg.done (by kernel_rfl) ?_
   simp only [Reg.ov, Act.put, List.setIfInBounds_toArray, List.set_cons_succ, List.set_cons_zero]
   exact key w.heap.size _ (Nat.le_refl _) (putT_box hx1) (putT_below hb1' (Nat.le_refl _))
end Go.Proofs.YteaaijhppmkfeaaGreatDoor
