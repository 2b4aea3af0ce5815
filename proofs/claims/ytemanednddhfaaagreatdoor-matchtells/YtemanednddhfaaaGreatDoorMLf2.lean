/- Joined: Lf2. -/
import Derived.Test.YtemanednddhfaaaGreatDoorMLf1
namespace Go.Proofs.YtemanednddhfaaaGreatDoor
open Go.RowKit
open E (T tk isS rpt beg)
structure ND where
 k : Int
 a : Int
 sp : Option Addr
 sl : Nat
 sc : Nat
 n : ByteArray
 kp : Option Addr
 kl : Nat
 kc : Nat
def ND.v (d : ND) : Value := .agg #[.int .i64 d.k, .int .i64 d.a, .slice d.sp d.sl d.sc, .string d.n, .slice d.kp d.kl d.kc]
def ND.cs (d : ND) : List Value := [.int .i64 d.k, .int .i64 d.a, .slice d.sp d.sl d.sc, .string d.n, .slice d.kp d.kl d.kc]
theorem TR.nd {w : World} {ok : Nat → Prop} : ∀ {t : T} {v : Value}, TR w ok t v → ∃ d : ND, v = d.v ∧ d.k = t.kind ∧ d.a = t.at_
 | .mk k a s n ks, v, h => by
   rw [TR] at h
   obtain ⟨sp, sc, kp, kc, e, _⟩ := h
   exact ⟨⟨k, a, sp, s.length, sc, ⟨n.toArray⟩, kp, ks.length, kc⟩, e, rfl, rfl⟩
set_option maxHeartbeats 1000000 in
theorem take_any {w : World} {R : Nat} {ao : Option Addr} {cap : Nat} {l : List E.Tok} {i o : Nat} (h : Rdr w R ao cap l i o) (hl : l.length ≤ 1000000) (c : List UInt8) :
   Calls Tryz.prog 107 #[.pointer (some ⟨R, 0, none⟩), .string ⟨c.toArray⟩] w fun e w' => e = .returned (.bool (isS (tk l i) c)) ∧ Rdr w' R ao cap l (if isS (tk l i) c = true then i + 1 else i) o ∧ Kp w.heap.size R w w' := by
 have hn := next_any h
 have HS := fun W => isSign_any (tk l i) c W
 have hlt : isS (tk l i) c = true → i < l.length := E.isS_lt
 generalize tk l i = t at *
 cases hb : isS t c with
 | true =>
   have hi := hlt hb
   rw [hb] at HS
   clear hb hlt
   go_enter Tryz.func107, Tryz.ntmps107
   go_wp2_with fail
   refine hn.mono ?_
   rintro e w1 ⟨rfl, hb1⟩
   go_wp2_with fail
   refine (HS _).mono ?_
   rintro e w2 ⟨rfl, hb2⟩
   have hB := nx hb1 hb2
   have h2 := h.later hB
   obtain ⟨c0, c1, c2⟩ := h2.cells
   have f1 := h2.frz 1
   go_wp2
   go_ret
   exact ⟨rfl, h2.put (i + 1), (Kp.of hB).set (p := ⟨R, 1, none⟩) (.inl rfl) _⟩
 | false =>
   rw [hb] at HS
   clear hb hlt
   go_enter Tryz.func107, Tryz.ntmps107
   go_wp2_with fail
   refine hn.mono ?_
   rintro e w1 ⟨rfl, hb1⟩
   go_wp2_with fail
   refine (HS _).mono ?_
   rintro e w2 ⟨rfl, hb2⟩
   have hB := nx hb1 hb2
   have h2 := h.later hB
   go_wp2
   go_ret
   exact ⟨rfl, h2, Kp.of hB⟩
set_option maxHeartbeats 1000000 in
theorem repeating_any (t : E.Tok) (w : World) : Calls Tryz.prog 165 #[tokV t.1 t.2] w fun e w' => e = .returned (.int .i64 (rpt t : Int)) ∧ Below w.heap.size w w' := by
 have H1 := fun W => isSign_any t [42] W
 have H2 := fun W => isSign_any t [43] W
 have H3 := fun W => isSign_any t [63] W
 unfold rpt
 unfold tokV at H1 H2 H3 ⊢
 cases h1 : isS t [42] with
 | true =>
   rw [h1] at H1
   clear h1 H2 H3
   go_enter Tryz.func165, Tryz.ntmps165
   go_wp2_with fail
   refine (H1 _).mono ?_
   rintro e w1 ⟨rfl, hb1⟩
   have hB := nx (al1 w _) hb1
   go_wp2
   go_ret
   exact ⟨rfl, hB⟩
 | false =>
   rw [h1] at H1
   clear h1
   cases h2 : isS t [43] with
   | true =>
     rw [h2] at H2
     clear h2 H3
     go_enter Tryz.func165, Tryz.ntmps165
     go_wp2_with fail
     refine (H1 _).mono ?_
     rintro e w1 ⟨rfl, hb1⟩
     have hB := nx (al1 w _) hb1
     obtain ⟨d0, d1, d2, d3⟩ := cells_four ((hb1.block w.heap.size (by simp)).trans (heap_alloc_new w _))
     go_wp2_with fail
     refine (H2 _).mono ?_
     rintro e w2 ⟨rfl, hb2⟩
     have hB2 := nx hB hb2
     go_wp2
     go_ret
     exact ⟨rfl, hB2⟩
   | false =>
     rw [h2] at H2
     clear h2
     have H3' : ∀ W, Calls Tryz.prog 137 _ W fun e w' => e = .returned (.bool (isS t [63])) ∧ Below W.heap.size W w' := H3
     go_enter Tryz.func165, Tryz.ntmps165
     go_wp2_with fail
     refine (H1 _).mono ?_
     rintro e w1 ⟨rfl, hb1⟩
     have hB := nx (al1 w _) hb1
     have hbx := (hb1.block w.heap.size (by simp)).trans (heap_alloc_new w _)
     obtain ⟨d0, d1, d2, d3⟩ := cells_four hbx
     go_wp2_with fail
     refine (H2 _).mono ?_
     rintro e w2 ⟨rfl, hb2⟩
     have hB2 := nx hB hb2
     obtain ⟨d0', d1', d2', d3'⟩ := cells_four ((hb2.block w.heap.size (Array.getElem?_eq_some_iff.1 hbx).1).trans hbx)
     go_wp2_with fail
     refine (H3 _).mono ?_
     rintro e w3 ⟨rfl, hb3⟩
     have hB3 := nx hB2 hb3
     cases h3 : isS t [63] with
     | true =>
       go_wp2
       go_ret
       exact ⟨rfl, hB3⟩
     | false =>
       go_wp2
       go_ret
       exact ⟨rfl, hB3⟩
theorem al3_new (w : World) (o1 o2 o3 : Obj) : (((w.alloc o1).alloc o2).alloc o3).heap[w.heap.size + 1 + 1]? = some o3 := by
 have := heap_alloc_new ((w.alloc o1).alloc o2) o3
 simpa using this
theorem al4_new (w : World) (o1 o2 o3 o4 : Obj) : ((((w.alloc o1).alloc o2).alloc o3).alloc o4).heap[w.heap.size + 1 + 1 + 1]? = some o4 := by
 have := heap_alloc_new (((w.alloc o1).alloc o2).alloc o3) o4
 simpa using this
set_option maxHeartbeats 1000000 in
theorem twoOf_any (k : Int) (d1 d2 : ND) (w : World) : Calls Tryz.prog 108 #[.int .i64 k, d1.v, d2.v] w fun e w' =>
   ∃ b, w.heap.size ≤ b ∧ e = .returned (.agg #[.int .i64 k, .int .i64 d1.a, .slice none 0 0, .string ⟨#[]⟩, .slice (some ⟨b, 0, none⟩) 2 2]) ∧ w'.heap[b]? = some (.cells (d1.cs ++ d2.cs).toArray 26) ∧ Below w.heap.size w w' := by
 unfold ND.v ND.cs
 go_enter Tryz.func108, Tryz.ntmps108
 go_wp2
 exact bodyPost_ret (v := .agg #[.int .i64 k, .int .i64 d1.a, .slice none 0 0, .string ⟨#[]⟩, .slice (some ⟨w.heap.size + 1 + 1 + 1, 0, none⟩) 2 2]) (by simp [results, Tryz.results108, go_sem]) rfl ⟨w.heap.size + 1 + 1 + 1, by omega, rfl, by rw [al4_new], nx (nx (nx (al1 w _) (al1 _ _)) (al1 _ _)) (al1 _ _)⟩
set_option maxHeartbeats 1000000 in
theorem oneRange_any (t u : E.Tok) (w : World) : Calls Tryz.prog 180 #[tokV t.1 t.2, tokV u.1 u.2] w fun e w' =>
   ∃ ao, e = .returned (.slice ao 1 1) ∧ U.RdR w' ao [(t.1.r, u.1.r)] ∧ Below w.heap.size w w' := by
 unfold tokV
 go_enter Tryz.func180, Tryz.ntmps180
 go_wp2
 go_ret
 refine ⟨_, rfl, ?_, nx (nx (al1 w _) (al1 _ _)) (al1 _ _)⟩
 intro i hi
 obtain rfl : i = 0 := by simp at hi; omega
 refine ⟨w.heap.size + 1 + 1, 0, rfl, ?_, ?_⟩
 · simp only [World.cell?, al3_new]
   rfl
 · simp only [World.cell?, al3_new]
   rfl
set_option maxHeartbeats 1000000 in
theorem begins_any (t : E.Tok) (w : World) : Calls Tryz.prog 135 #[tokV t.1 t.2] w fun e w' => e = .returned (.bool (beg t)) ∧ Below w.heap.size w w' := by
 have H1 := fun W => isSign_any t [46] W
 have H2 := fun W => isSign_any t [40] W
 have H3 := fun W => isSign_any t [91] W
 unfold beg
 unfold tokV at H1 H2 H3 ⊢
 by_cases k1 : t.1.kind = 1
 · have e1 : ((t.1.kind : Int) == 1) = true := by simp [k1]
   rw [decide_eq_true k1, Bool.true_or]
   clear H1 H2 H3 k1
   go_enter Tryz.func135, Tryz.ntmps135
   go_wp2
   go_ret
   exact ⟨rfl, al1 w _⟩
 have e1 : ((t.1.kind : Int) == 1) = false := by simp; omega
 rw [decide_eq_false k1, Bool.false_or]
 clear k1
 by_cases k4 : t.1.kind = 4
 · have e4 : ((t.1.kind : Int) == 4) = true := by simp [k4]
   rw [decide_eq_true k4, Bool.true_or]
   clear H1 H2 H3 k4
   go_enter Tryz.func135, Tryz.ntmps135
   go_wp2
   go_ret
   exact ⟨rfl, al1 w _⟩
 have e4 : ((t.1.kind : Int) == 4) = false := by simp; omega
 rw [decide_eq_false k4, Bool.false_or]
 clear k4
 by_cases k5 : t.1.kind = 5
 · have e5 : ((t.1.kind : Int) == 5) = true := by simp [k5]
   rw [decide_eq_true k5, Bool.true_or]
   clear H1 H2 H3 k5
   go_enter Tryz.func135, Tryz.ntmps135
   go_wp2
   go_ret
   exact ⟨rfl, al1 w _⟩
 have e5 : ((t.1.kind : Int) == 5) = false := by simp; omega
 rw [decide_eq_false k5, Bool.false_or]
 clear k5
 generalize isS t [46] = b1 at *
 generalize isS t [40] = b2 at *
 generalize isS t [91] = b3 at *
 cases b1 with
 | true =>
   clear H2 H3
   go_enter Tryz.func135, Tryz.ntmps135
   go_wp2_with fail
   refine (H1 _).mono ?_
   rintro e w1 ⟨rfl, hb1⟩
   have hB := nx (al1 w _) hb1
   go_wp2
   go_ret
   exact ⟨rfl, hB⟩
 | false =>
   cases b2 with
   | true =>
     clear H3
     go_enter Tryz.func135, Tryz.ntmps135
     go_wp2_with fail
     refine (H1 _).mono ?_
     rintro e w1 ⟨rfl, hb1⟩
     have hB := nx (al1 w _) hb1
     obtain ⟨d0, d1, d2, d3⟩ := cells_four ((hb1.block w.heap.size (by simp)).trans (heap_alloc_new w _))
     go_wp2_with fail
     refine (H2 _).mono ?_
     rintro e w2 ⟨rfl, hb2⟩
     have hB2 := nx hB hb2
     go_wp2
     go_ret
     exact ⟨rfl, hB2⟩
   | false =>
     go_enter Tryz.func135, Tryz.ntmps135
     go_wp2_with fail
     refine (H1 _).mono ?_
     rintro e w1 ⟨rfl, hb1⟩
     have hB := nx (al1 w _) hb1
     have hbx := (hb1.block w.heap.size (by simp)).trans (heap_alloc_new w _)
     obtain ⟨d0, d1, d2, d3⟩ := cells_four hbx
     go_wp2_with fail
     refine (H2 _).mono ?_
     rintro e w2 ⟨rfl, hb2⟩
     have hB2 := nx hB hb2
     obtain ⟨d0', d1', d2', d3'⟩ := cells_four ((hb2.block w.heap.size (Array.getElem?_eq_some_iff.1 hbx).1).trans hbx)
     go_wp2_with fail
     refine (H3 _).mono ?_
     rintro e w3 ⟨rfl, hb3⟩
     have hB3 := nx hB2 hb3
     go_wp2
     go_ret
     exact ⟨rfl, hB3⟩
theorem field1 (a b r : Int) (s : ByteArray) (w : World) : (Instr.field 79 (.agg #[.int .i64 a, .int .i64 b, .string s, .int .i32 r]) 1).run Tryz.prog w = .ok (.int .i64 b) w := by kernel_rfl
abbrev roomN : Obj := .cells #[.int .i64 0, .int .i64 0, .slice none 0 0, .string ⟨#[]⟩, .slice none 0 0] 26
def zN : Value := .agg #[.int .i64 0, .int .i64 0, .slice none 0 0, .string ⟨#[]⟩, .slice none 0 0]
set_option maxRecDepth 100000 in
set_option maxHeartbeats 1000000 in
theorem single_ok {w : World} {R : Nat} {ao : Option Addr} {cap : Nat} {l : List E.Tok} {i o : Nat} (h : Rdr w R ao cap l i o) (hl : i ≤ 1000000) (sp : Option Addr) (sl sc : Nat) :
   Calls Tryz.prog 178 #[.pointer (some ⟨R, 0, none⟩), .slice sp sl sc, .int .i64 0] w fun e w' => e = .returned (.tuple #[.agg #[.int .i64 1, .int .i64 ((tk l i).2 : Int), .slice sp sl sc, .string ⟨#[]⟩, .slice none 0 0], .int .i64 0]) ∧ Rdr w' R ao cap l (i + 1) o ∧ Kp w.heap.size R w w' := by
 have h1 := h.later (al1 w roomN)
 have hn := next_any h1
 generalize tk l i = t at *
 unfold tokV at hn
 go_enter Tryz.func178, Tryz.ntmps178
 go_wp2_with fail
 refine hn.mono ?_
 rintro e w1 ⟨rfl, hb1⟩
 have h2 := h1.later hb1
 obtain ⟨c0, c1, c2⟩ := h2.cells
 have f1 := h2.frz 1
 obtain ⟨hr0, hbb⟩ := room_kept hb1
 have hR : R ≠ w.heap.size := Nat.ne_of_lt h.lt
 have hR' : w.heap.size ≠ R := fun e => hR e.symm
 have h3 := h2.put (i + 1)
 have k3 := (Kp.of (x := R) hbb).set (p := ⟨R, 1, none⟩) (.inl rfl) (.int .i64 ((i + 1 : Nat) : Int))
 have hr1 := (Below.heap_setCell w1 ⟨R, 1, none⟩ (.int .i64 ((i + 1 : Nat) : Int)) w.heap.size hR').trans hr0
 have HE : ((i + 1 : Nat) : Int) = (i : Int) + 1 := by omega
 rw [HE] at h3 k3 hr1
 obtain ⟨W3, hW3⟩ : ∃ W3, w1.setCell ⟨R, 1, none⟩ (.int .i64 ((i : Int) + 1)) = W3 := ⟨_, rfl⟩
 rw [hW3] at h3 k3 hr1
 clear HE
 obtain ⟨d0, d1, d2, d3, d4⟩ := cells_five hr1
 have g0 := frozen_row hr1 0
 have g1 := frozen_row hr1 1
 have g2 := frozen_row hr1 2
 have g3 := frozen_row hr1 3
 have g4 := frozen_row hr1 4
 have hfl := field1 (t.1.kind : Int) (t.2 : Int) t.1.r ⟨t.1.text.toArray⟩
 go_wp2
 obtain ⟨x0, x1, x2, x3, x4⟩ := cells_five (putN_box (v0 := .int .i64 1) (v1 := .int .i64 (t.2 : Int)) (v2 := .slice sp sl sc) (v3 := .string ⟨#[]⟩) (v4 := .slice none 0 0) hr1)
 exact bodyPost_ret (w := putN W3 w.heap.size _ _ _ _ _) (v := .tuple #[.agg #[.int .i64 1, .int .i64 (t.2 : Int), .slice sp sl sc, .string ⟨#[]⟩, .slice none 0 0], .int .i64 0]) (by simp [results, Tryz.results178, go_sem, x0, x1, x2, x3, x4]) rfl ⟨rfl, h3.putN h.lt _ _ _ _ _, putN_kp k3 (Nat.le_refl _)⟩
end Go.Proofs.YtemanednddhfaaaGreatDoor
