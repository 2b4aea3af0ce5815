/- Joined: Qra Qrb. -/
import Derived.Test.YtamhjnemmdcniaaGreatDoorVLf2
import Derived.BigQuiet
import Derived.Test.YtamhjnemmdcniaaGreatDoorVSqr
import Derived.Test.YtamhjnemmdcniaaGreatDoorVURefa
import Derived.Test.YtamhjnemmdcniaaGreatDoorVURefb
/- The reference's reader: its small functions. -/
namespace Go.Proofs.YtamhjnemmdcniaaGreatDoor
open Go.RowKit
open E (T tk isS rpt beg)
structure Rq (w : World) (R : Nat) (ao : Option Addr) (cap : Nat) (l : List (X.Tk × Nat)) (i o e a : Nat) : Prop where
 box : w.heap[R]? = some (.cells #[.slice ao l.length cap, .int .i64 (i : Int), .int .i64 (o : Int), .int .i64 (e : Int), .int .i64 (a : Int)] 81)
 rd : RdK w ao l
 lo : ∀ b off, ao = some ⟨b, off, none⟩ → b < R
theorem Rq.lt {w : World} {R : Nat} {ao : Option Addr} {cap : Nat} {l : List (X.Tk × Nat)} {i o e a : Nat} (h : Rq w R ao cap l i o e a) : R < w.heap.size := (Array.getElem?_eq_some_iff.1 h.box).1
theorem Rq.noI {w : World} {R : Nat} {ao : Option Addr} {cap : Nat} {l : List (X.Tk × Nat)} {i o e a : Nat} (h : Rq w R ao cap l i o e a) : NoI w R := noI_cells (cs := [_, _, _, _, _]) h.box rfl
theorem Rq.later {w W : World} {R : Nat} {ao : Option Addr} {cap : Nat} {l : List (X.Tk × Nat)} {i o e a : Nat} (h : Rq w R ao cap l i o e a) (hb : Below w.heap.size w W) : Rq W R ao cap l i o e a :=
 ⟨(hb.block R h.lt).trans h.box, h.rd.later hb, h.lo⟩
theorem Rq.frz {w : World} {R : Nat} {ao : Option Addr} {cap : Nat} {l : List (X.Tk × Nat)} {i o e a : Nat} (h : Rq w R ao cap l i o e a) (j : Nat) : w.frozen? ⟨R, j, none⟩ = false := by simp [World.frozen?, h.box]
theorem Rq.put {w : World} {R : Nat} {ao : Option Addr} {cap : Nat} {l : List (X.Tk × Nat)} {i o e a : Nat} (h : Rq w R ao cap l i o e a) (j : Nat) : Rq (w.setCell ⟨R, 1, none⟩ (.int .i64 (j : Int))) R ao cap l j o e a := by
 refine ⟨?_, rdk_but h.rd (fun k _ hk => Below.heap_setCell _ _ _ _ hk) (fun b off e => Nat.ne_of_lt (h.lo b off e)), h.lo⟩
 simp [World.setCell, Array.getElem?_modify, h.box]
theorem Rq.putO {w : World} {R : Nat} {ao : Option Addr} {cap : Nat} {l : List (X.Tk × Nat)} {i o e a : Nat} (h : Rq w R ao cap l i o e a) (j : Nat) : Rq (w.setCell ⟨R, 2, none⟩ (.int .i64 (j : Int))) R ao cap l i j e a := by
 refine ⟨?_, rdk_but h.rd (fun k _ hk => Below.heap_setCell _ _ _ _ hk) (fun b off e => Nat.ne_of_lt (h.lo b off e)), h.lo⟩
 simp [World.setCell, Array.getElem?_modify, h.box]
theorem Rq.putE {w : World} {R : Nat} {ao : Option Addr} {cap : Nat} {l : List (X.Tk × Nat)} {i o e a : Nat} (h : Rq w R ao cap l i o e a) (e' a' : Nat) : Rq ((w.setCell ⟨R, 3, none⟩ (.int .i64 (e' : Int))).setCell ⟨R, 4, none⟩ (.int .i64 (a' : Int))) R ao cap l i o e' a' := by
 refine ⟨?_, rdk_but (rdk_but h.rd (fun k _ hk => Below.heap_setCell _ _ _ _ hk) (fun b off e => Nat.ne_of_lt (h.lo b off e))) (fun k _ hk => Below.heap_setCell _ _ _ _ hk) (fun b off e => Nat.ne_of_lt (h.lo b off e)), h.lo⟩
 simp [World.setCell, Array.getElem?_modify, h.box]
theorem Rq.but {w W : World} {R x : Nat} {ao : Option Addr} {cap : Nat} {l : List (X.Tk × Nat)} {i o e a : Nat} (h : Rq w R ao cap l i o e a) (hs : ∀ k, k < w.heap.size → k ≠ x → W.heap[k]? = w.heap[k]?) (hx : R < x) : Rq W R ao cap l i o e a :=
 ⟨(hs R h.lt (by omega)).trans h.box, rdk_but h.rd hs (fun b off e => by have := h.lo b off e; omega), h.lo⟩
set_option maxRecDepth 100000 in
set_option maxHeartbeats 1000000 in
theorem nowQ {w : World} {R : Nat} {ao : Option Addr} {cap : Nat} {l : List E.Tok} {i o e a : Nat} (h : Rq w R ao cap l i o e a) :
   Calls Tryz.prog 116 #[.pointer (some ⟨R, 0, none⟩)] w fun r w' => r = .returned (tokV (tk l i).1 (tk l i).2) ∧ Below w.heap.size w w' := by
 have ha := al1 w (.cells #[.int .i64 0, .int .i64 0, .string ⟨#[]⟩, .int .i32 0] 58)
 have hx := heap_alloc_new w (.cells #[.int .i64 0, .int .i64 0, .string ⟨#[]⟩, .int .i32 0] 58)
 have h1 := h.later ha
 have hlt := h.lt
 obtain ⟨c0, c1, c2, c3, c4⟩ := cells_five h1.box
 have e1 : decide ((i : Int) < 0) = false := by simp
 obtain ⟨W, hW⟩ : ∃ W, w.alloc (.cells #[.int .i64 0, .int .i64 0, .string ⟨#[]⟩, .int .i32 0] 58) = W := ⟨_, rfl⟩
 rw [hW] at ha hx h1 c0 c1 c2 c3 c4
 have hrd := h1.rd
 have hlo := h.lo
 clear h h1
 obtain ⟨x0, x1, x2, x3⟩ := cells_four hx
 have g0 := frozen_row hx 0
 have g1 := frozen_row hx 1
 have g2 := frozen_row hx 2
 have g3 := frozen_row hx 3
 have hsz : w.heap.size < W.heap.size := (Array.getElem?_eq_some_iff.1 hx).1
 have hne1 : ¬ R = w.heap.size := by omega
 have hne2 : ¬ w.heap.size = R := by omega
 have HX := hide hx
 have HB := hide ha
 clear hx ha
 by_cases hi : i < l.length
 · have e2 : decide ((l.length : Int) ≤ (i : Int)) = false := by simp; omega
   obtain ⟨b, off, rfl, d0, d1, d2, d3⟩ := hrd i hi
   rw [tk_in hi]
   have hix := elemSize40k
   have hbb := hlo b off rfl
   have hn3 : ¬ b = w.heap.size := by omega
   have hn4 : ¬ w.heap.size = b := by omega
   have hbw : b < W.heap.size := by omega
   have hrw : R < W.heap.size := by omega
   obtain ⟨t, ht⟩ : ∃ t, l[i] = t := ⟨_, rfl⟩
   rw [ht] at d0 d1 d2 d3 ⊢
   clear ht hrd hlo
   go_enter Tryz.func116, Tryz.ntmps116
   go_wp2_with fail
   go_quiet (fail)
   go_wp2_with fail
   go_region
   obtain ⟨u0, u1, u2, u3⟩ := cells_four (putT_box (w := W.drewN (nq + 1)) (a := (t.1.kind : Int)) (c := (t.2 : Int)) (s := ⟨t.1.text.toArray⟩) (r := t.1.r) HX.out)
   have hbp := putT_below (w := W.drewN (nq + 1)) (b := w.heap.size) (a := (t.1.kind : Int)) (c := (t.2 : Int)) (s := ⟨t.1.text.toArray⟩) (r := t.1.r) (below_drewN HB.out (nq + 1)) (Nat.le_refl _)
   unfold putT at u0 u1 u2 u3 hbp
   obtain ⟨w5, hw5⟩ : ∃ w5, ((((W.drewN (nq + 1)).setCell ⟨w.heap.size, 0, none⟩ (.int .i64 (t.1.kind : Int))).setCell ⟨w.heap.size, 1, none⟩ (.int .i64 (t.2 : Int))).setCell ⟨w.heap.size, 2, none⟩ (.string ⟨t.1.text.toArray⟩)).setCell ⟨w.heap.size, 3, none⟩ (.int .i32 t.1.r) = w5 := ⟨_, rfl⟩
   rw [hw5] at u0 u1 u2 u3 hbp ⊢
   clear hw5
   go_wp2
   exact bodyPost_ret (v := tokV t.1 t.2) (by unfold tokV; simp [results, Tryz.results116, go_sem, u0, u1, u2, u3]) rfl ⟨rfl, hbp⟩
 · have e2 : decide ((l.length : Int) ≤ (i : Int)) = true := by simp; omega
   rw [tk_out (by omega)]
   clear hrd
   go_enter Tryz.func116, Tryz.ntmps116
   go_wp2_with fail
   go_quiet (fail)
   go_wp2
   exact bodyPost_ret (w := putT (W.drewN nq) w.heap.size 0 0 ⟨#[]⟩ 0) (v := tokV tz 0) (by unfold tokV; obtain ⟨u0, u1, u2, u3⟩ := cells_four (putT_box (w := W.drewN nq) (a := 0) (c := 0) (s := ⟨#[]⟩) (r := 0) HX.out); simp [results, Tryz.results116, go_sem, tz, u0, u1, u2, u3]) rfl ⟨rfl, putT_below (below_drewN HB.out nq) (Nat.le_refl _)⟩
set_option maxRecDepth 100000 in
set_option maxHeartbeats 1000000 in
theorem signQ {w : World} {R : Nat} {ao : Option Addr} {cap : Nat} {l : List E.Tok} {i o e a : Nat} (c : List UInt8) (h : Rq w R ao cap l i o e a) :
   Calls Tryz.prog 79 #[.pointer (some ⟨R, 0, none⟩), .string ⟨c.toArray⟩] w fun r w' => r = .returned (.bool (decide (e = 0) && isS (tk l i) c)) ∧ Below w.heap.size w w' := by
 have hn := nowQ h
 unfold E.isS
 obtain ⟨t, ht⟩ : ∃ t, tk l i = t := ⟨_, rfl⟩
 rw [ht] at hn ⊢
 unfold tokV at hn
 clear ht
 obtain ⟨rs, hrs⟩ : ∃ rs, (decide (e = 0) && (decide (t.1.kind = 6) && t.1.text == c)) = rs := ⟨_, rfl⟩
 rw [hrs]
 have HR := hide hrs
 clear hrs
 go_enter Tryz.func79, Tryz.ntmps79
 go_wp2_with fail
 refine hn.mono ?_
 rintro r w1 ⟨rfl, hb1⟩
 have ha := al1 w1 (.cells #[.int .i64 (t.1.kind : Int), .int .i64 (t.2 : Int), .string ⟨t.1.text.toArray⟩, .int .i32 t.1.r] 58)
 have hx := heap_alloc_new w1 (.cells #[.int .i64 (t.1.kind : Int), .int .i64 (t.2 : Int), .string ⟨t.1.text.toArray⟩, .int .i32 t.1.r] 58)
 have hbW := nx hb1 ha
 obtain ⟨c0, c1, c2, c3, c4⟩ := cells_five (h.later hbW).box
 obtain ⟨W, hW⟩ : ∃ W, w1.alloc (.cells #[.int .i64 (t.1.kind : Int), .int .i64 (t.2 : Int), .string ⟨t.1.text.toArray⟩, .int .i32 t.1.r] 58) = W := ⟨_, rfl⟩
 rw [hW] at hx hbW c0 c1 c2 c3 c4
 obtain ⟨x0, x1, x2, x3⟩ := cells_four hx
 clear hn ha h hb1 hx
 have hq : ((⟨t.1.text.toArray⟩ : ByteArray).toList == (⟨c.toArray⟩ : ByteArray).toList) = (t.1.text == c) := by
   rw [ByteArray.toList_eq, ByteArray.toList_eq]
 by_cases he : e = 0
 · have e1 : ((e : Int) == 0) = true := by simp [he]
   rw [decide_eq_true he, Bool.true_and] at HR
   clear he
   by_cases hk : t.1.kind = 6
   · have e2 : ((t.1.kind : Int) == 6) = true := by simp [hk]
     rw [decide_eq_true hk, Bool.true_and] at HR
     clear hk hq
     go_wp2
     go_ret
     exact ⟨by rw [← HR.out]; rfl, hbW⟩
   · have e2 : ((t.1.kind : Int) == 6) = false := by simp; omega
     rw [decide_eq_false hk, Bool.false_and] at HR
     clear hk hq
     go_wp2
     go_ret
     exact ⟨by rw [← HR.out]; rfl, hbW⟩
 · have e1 : ((e : Int) == 0) = false := by simp; omega
   rw [decide_eq_false he, Bool.false_and] at HR
   clear he hq
   go_wp2
   go_ret
   exact ⟨by rw [← HR.out]; rfl, hbW⟩
set_option maxRecDepth 100000 in
set_option maxHeartbeats 1000000 in
theorem failQ {w : World} {R : Nat} {ao : Option Addr} {cap : Nat} {l : List E.Tok} {i o a : Nat} (e' a' : Nat) (h : Rq w R ao cap l i o 0 a) :
   Calls Tryz.prog 167 #[.pointer (some ⟨R, 0, none⟩), .int .i64 (e' : Int), .int .i64 (a' : Int)] w fun r w' => (∃ v, r = .returned v) ∧ w' = (w.setCell ⟨R, 3, none⟩ (.int .i64 (e' : Int))).setCell ⟨R, 4, none⟩ (.int .i64 (a' : Int)) := by
 obtain ⟨c0, c1, c2, c3, c4⟩ := cells_five h.box
 have g3 := h.frz 3
 have g4 := h.frz 4
 clear h
 go_enter Tryz.func167, Tryz.ntmps167
 go_wp2
 refine bodyPost_end (results_none rfl _ _ _) rfl ?_
 exact ⟨⟨_, rfl⟩, rfl⟩
theorem field0 (a b r : Int) (s : ByteArray) (w : World) : (Instr.field 58 (.agg #[.int .i64 a, .int .i64 b, .string s, .int .i32 r]) 0).run Tryz.prog w = .ok (.int .i64 a) w := by kernel_rfl
set_option maxRecDepth 100000 in
set_option maxHeartbeats 1000000 in
theorem beginsQ {w : World} {R : Nat} {ao : Option Addr} {cap : Nat} {l : List E.Tok} {i o e a : Nat} (h : Rq w R ao cap l i o e a) :
   Calls Tryz.prog 115 #[.pointer (some ⟨R, 0, none⟩)] w fun r w' => r = .returned (.bool (decide (e = 0) && beg (tk l i))) ∧ Below w.heap.size w w' := by
 have hn := nowQ h
 have hs1 := fun (W : World) (hb : Below w.heap.size w W) => signQ [46] (h.later hb)
 have hs2 := fun (W : World) (hb : Below w.heap.size w W) => signQ [40] (h.later hb)
 have hs3 := fun (W : World) (hb : Below w.heap.size w W) => signQ [91] (h.later hb)
 have HBX := fun (W : World) (hb : Below w.heap.size w W) => cells_five (h.later hb).box
 unfold E.beg
 generalize isS (tk l i) [46] = q1 at *
 generalize isS (tk l i) [40] = q2 at *
 generalize isS (tk l i) [91] = q3 at *
 obtain ⟨t, ht⟩ : ∃ t, tk l i = t := ⟨_, rfl⟩
 rw [ht] at hn ⊢
 unfold tokV at hn
 clear ht
 obtain ⟨rs, hrs⟩ : ∃ rs, (decide (e = 0) && (decide (t.1.kind = 1) || (decide (t.1.kind = 4) || (decide (t.1.kind = 5) || (q1 || (q2 || q3)))))) = rs := ⟨_, rfl⟩
 rw [hrs]
 have HR := hide hrs
 clear hrs
 go_enter Tryz.func115, Tryz.ntmps115
 go_wp2_with fail
 refine hn.mono ?_
 rintro r w1 ⟨rfl, hb1⟩
 obtain ⟨c0, c1, c2, c3, c4⟩ := HBX w1 hb1
 clear hn h HBX
 have hf := field0 (t.1.kind : Int) (t.2 : Int) t.1.r ⟨t.1.text.toArray⟩
 by_cases he : e = 0
 · have e1 : ((e : Int) == 0) = true := by simp [he]
   rw [decide_eq_true he] at hs1 hs2 hs3 HR
   simp only [Bool.true_and] at hs1 hs2 hs3 HR
   clear he
   by_cases k1 : t.1.kind = 1
   · have e2 : ((t.1.kind : Int) == 1) = true := by simp [k1]
     rw [decide_eq_true k1, Bool.true_or] at HR
     clear k1
     go_wp2
     go_ret
     exact ⟨by rw [← HR.out]; first | rfl | simp, hb1⟩
   have e2 : ((t.1.kind : Int) == 1) = false := by simp; omega
   rw [decide_eq_false k1, Bool.false_or] at HR
   by_cases k4 : t.1.kind = 4
   · have e3 : ((t.1.kind : Int) == 4) = true := by simp [k4]
     rw [decide_eq_true k4, Bool.true_or] at HR
     clear k1 k4
     go_wp2
     go_ret
     exact ⟨by rw [← HR.out]; first | rfl | simp, hb1⟩
   have e3 : ((t.1.kind : Int) == 4) = false := by simp; omega
   rw [decide_eq_false k4, Bool.false_or] at HR
   by_cases k5 : t.1.kind = 5
   · have e4 : ((t.1.kind : Int) == 5) = true := by simp [k5]
     rw [decide_eq_true k5, Bool.true_or] at HR
     clear k1 k4 k5
     go_wp2
     go_ret
     exact ⟨by rw [← HR.out]; first | rfl | simp, hb1⟩
   have e4 : ((t.1.kind : Int) == 5) = false := by simp; omega
   rw [decide_eq_false k5, Bool.false_or] at HR
   clear k1 k4 k5
   go_wp2_with fail
   refine (hs1 w1 hb1).mono ?_
   rintro r w2 ⟨rfl, hb2⟩
   have hb2 := nx hb1 hb2
   cases q1 with
   | true =>
     go_wp2
     go_ret
     exact ⟨by rw [← HR.out]; first | rfl | simp, hb2⟩
   | false =>
     rw [Bool.false_or] at HR
     go_wp2_with fail
     refine (hs2 w2 hb2).mono ?_
     rintro r w3 ⟨rfl, hb3⟩
     have hb3 := nx hb2 hb3
     cases q2 with
     | true =>
       go_wp2
       go_ret
       exact ⟨by rw [← HR.out]; first | rfl | simp, hb3⟩
     | false =>
       rw [Bool.false_or] at HR
       go_wp2_with fail
       refine (hs3 w3 hb3).mono ?_
       rintro r w4 ⟨rfl, hb4⟩
       have hb4 := nx hb3 hb4
       go_wp2
       go_ret
       exact ⟨by rw [← HR.out]; first | rfl | simp, hb4⟩
 · have e1 : ((e : Int) == 0) = false := by simp; omega
   rw [decide_eq_false he, Bool.false_and] at HR
   clear he hs1 hs2 hs3
   go_wp2
   go_ret
   exact ⟨by rw [← HR.out]; first | rfl | simp, hb1⟩
end Go.Proofs.YtamhjnemmdcniaaGreatDoor
/- The reference's reader: a property, a set. -/
namespace Go.Proofs.YtamhjnemmdcniaaGreatDoor
open Go.RowKit
open E (T tk isS rpt beg)
theorem field2 (a b r : Int) (s : ByteArray) (w : World) : (Instr.field 58 (.agg #[.int .i64 a, .int .i64 b, .string s, .int .i32 r]) 2).run Tryz.prog w = .ok (.string s) w := by kernel_rfl
theorem field3 (a b r : Int) (s : ByteArray) (w : World) : (Instr.field 58 (.agg #[.int .i64 a, .int .i64 b, .string s, .int .i32 r]) 3).run Tryz.prog w = .ok (.int .i32 r) w := by kernel_rfl
theorem Rq.kp {w : World} {R : Nat} {ao : Option Addr} {cap : Nat} {l : List E.Tok} {i o e a : Nat} (_h : Rq w R ao cap l i o e a) {n : Nat} {w0 : World} (hk : Kp n R w0 w) (j : Nat) (u : Value) : Kp n R w0 (w.setCell ⟨R, j, none⟩ u) := hk.set (p := ⟨R, j, none⟩) (.inl rfl) u
theorem Rq.failed {w : World} {R : Nat} {ao : Option Addr} {cap : Nat} {l : List E.Tok} {i o e a : Nat} (h : Rq w R ao cap l i o e a) {n : Nat} {w0 : World} (hk : Kp n R w0 w) (e' a' : Nat) :
   Rq ((w.setCell ⟨R, 3, none⟩ (.int .i64 (e' : Int))).setCell ⟨R, 4, none⟩ (.int .i64 (a' : Int))) R ao cap l i o e' a' ∧ Kp n R w0 ((w.setCell ⟨R, 3, none⟩ (.int .i64 (e' : Int))).setCell ⟨R, 4, none⟩ (.int .i64 (a' : Int))) :=
 ⟨h.putE e' a', (hk.set (p := ⟨R, 3, none⟩) (.inl rfl) _).set (p := ⟨R, 4, none⟩) (.inl rfl) _⟩
def AnsPr (kk : Bool) (zs : E.Rs) (R : Nat) (ao : Option Addr) (cap : Nat) (l : List E.Tok) (i o a : Nat) (w : World) (r : Ending) (w' : World) : Prop := Kp w.heap.size R w w' ∧
 ((kk = true ∧ ∃ sp sc, r = .returned (.slice sp zs.length sc) ∧ U.RdR w' sp zs ∧ (sp = none → sc = 0) ∧ Rq w' R ao cap l (i + 1) o 0 a) ∨ (kk = false ∧ r = .returned (.slice none 0 0) ∧ Rq w' R ao cap l i o 50 i))
set_option maxRecDepth 100000 in
set_option maxHeartbeats 1000000 in
theorem propQ {w : World} {R : Nat} {ao : Option Addr} {cap : Nat} {l : List E.Tok} {i o a : Nat} (h : Rq w R ao cap l i o 0 a) (hi : i ≤ 1000000) :
   Calls Tryz.prog 168 #[.pointer (some ⟨R, 0, none⟩)] w (AnsPr (U.kn (tk l i).1.text) (U.tl (tk l i).1.text) R ao cap l i o a w) := by
 have hn := nowQ h
 obtain ⟨t, ht⟩ : ∃ t, tk l i = t := ⟨_, rfl⟩
 rw [ht] at hn ⊢
 have hp := fun W => U.prop_any ⟨t.1.text.toArray⟩ W
 have hbt : (⟨t.1.text.toArray⟩ : ByteArray).toList = t.1.text := by rw [ByteArray.toList_eq]
 rw [hbt] at hp
 have HKT := hide (U.kn_tl t.1.text)
 unfold tokV at hn
 clear ht hbt
 generalize U.kn t.1.text = kk at *
 generalize U.tl t.1.text = zs at *
 have hf := field2 (t.1.kind : Int) (t.2 : Int) t.1.r ⟨t.1.text.toArray⟩
 go_enter Tryz.func168, Tryz.ntmps168
 go_wp2_with fail
 refine hn.mono ?_
 rintro r w1 ⟨rfl, hb1⟩
 clear hn
 go_wp2_with fail
 refine (hp w1).mono ?_
 rintro r w2 ⟨sp, sc, rfl, hr2, hb2⟩
 have hb := nx hb1 hb2
 have h2 := h.later hb
 have hk2 : Kp w.heap.size R w w2 := Kp.of hb
 have HS : sp = none → zs = [] := fun e => by
   cases zs with
   | nil => rfl
   | cons x zs =>
     obtain ⟨b, off, e', _⟩ := hr2 0 (by simp)
     rw [e] at e'
     cases e'
 clear hb1 hb2 hp
 obtain ⟨c0, c1, c2, c3, c4⟩ := cells_five h2.box
 have g1 := h2.frz 1
 cases kk with
 | true =>
   have hz : sp = none → False := fun e => by
     have h1 := HS e
     have := HKT.out
     rw [h1] at this
     cases this
   have h3 := h2.put (i + 1)
   have hk3 := h2.kp hk2 1 (.int .i64 ((i + 1 : Nat) : Int))
   have hr3 := rdr_put (j := 1) (v := .int .i64 ((i + 1 : Nat) : Int)) hr2 h2.noI
   have HE : ((i + 1 : Nat) : Int) = (i : Int) + 1 := by omega
   rw [HE] at h3 hk3 hr3
   have H3 := hide h3
   have HK := hide hk3
   have HR := hide hr3
   clear h3 hk3 hr3 HS
   go_wp2
   go_ret
   exact ⟨HK.out, .inl ⟨rfl, sp, sc, rfl, HR.out, fun e => (hz e).elim, H3.out⟩⟩
 | false =>
   have hfl := failQ 50 i h2
   obtain ⟨h3, hk3⟩ := h2.failed hk2 50 i
   have H3 := hide h3
   have HK := hide hk3
   clear h3 hk3 HS
   go_wp2_with fail
   refine hfl.mono ?_
   rintro r w3 ⟨⟨v, rfl⟩, rfl⟩
   go_wp2
   go_ret
   exact ⟨HK.out, .inr ⟨rfl, rfl, H3.out⟩⟩
def AnsSt (r : E.Res) (p : Nat) (R : Nat) (ao : Option Addr) (cap : Nat) (l : List E.Tok) (o a : Nat) (w : World) (e : Ending) (w' : World) : Prop := Kp w.heap.size R w w' ∧
 ((∃ S j sp sc, r = .ok (.mk 1 (p : Int) S [] [], j) ∧ e = .returned (.slice sp S.length sc) ∧ U.RdR w' sp S ∧ Rq w' R ao cap l j o 0 a) ∨
  ∃ c k j sp sl sc, r = .error (c, k) ∧ c ≠ 0 ∧ e = .returned (.slice sp sl sc) ∧ Rq w' R ao cap l j o c k)
def SetSt (R : Nat) (ao : Option Addr) (cap : Nat) (l : List E.Tok) (o a : Nat) (w : World) (tot : Except (Nat × Nat) (E.Rs × Nat)) (v : Value) (wr : World) : Prop :=
 ∃ (j : Nat) (acc : E.Rs), U.OwnR wr w.heap.size 51 v acc ∧ Kp w.heap.size R w wr ∧ acc.length ≤ 400000 ∧
   ((∃ n, Rq wr R ao cap l j o 0 a ∧ j ≤ l.length ∧ l.length - j < n ∧ acc.length ≤ 8 * j ∧ tot = E.items n l j acc) ∨ ∃ c k, c ≠ 0 ∧ Rq wr R ao cap l j o c k ∧ tot = .error (c, k))
theorem Rq.below {w W : World} {R n : Nat} {ao : Option Addr} {cap : Nat} {l : List E.Tok} {i o e a : Nat} (h : Rq w R ao cap l i o e a) (hb : Below n w W) (hn : R < n) : Rq W R ao cap l i o e a := by
 refine ⟨(hb.block R hn).trans h.box, fun k hk => ?_, h.lo⟩
 obtain ⟨b, off, e, h0, h1, h2, h3⟩ := h.rd k hk
 have hlt := h.lo b off e
 have c : ∀ j, W.cell? ⟨b, j, none⟩ = w.cell? ⟨b, j, none⟩ := fun j => hb.cell (p := ⟨b, j, none⟩) (show b < n by omega)
 exact ⟨b, off, e, by rw [c]; exact h0, by rw [c]; exact h1, by rw [c]; exact h2, by rw [c]; exact h3⟩
theorem new_rowQ {w : World} {x y : Int} : U.RdR (w.alloc (.cells #[.int .i32 x, .int .i32 y] 51)) (some ⟨w.heap.size, 0, none⟩) [(x, y)] := fun i hi => by
 obtain rfl : i = 0 := by simpa using hi
 have hx := heap_alloc_new w (.cells #[.int .i32 x, .int .i32 y] 51)
 refine ⟨w.heap.size, 0, rfl, ?_, ?_⟩
 · unfold World.cell?
   rw [show (w.alloc (.cells #[.int .i32 x, .int .i32 y] 51)).heap[(⟨w.heap.size, 0 + 0 * 2, none⟩ : Addr).block]? = _ from hx]
   rfl
 · unfold World.cell?
   rw [show (w.alloc (.cells #[.int .i32 x, .int .i32 y] 51)).heap[(⟨w.heap.size, 0 + 0 * 2 + 1, none⟩ : Addr).block]? = _ from hx]
   rfl
theorem cells_2q {W : World} {k : Nat} {u v : Value} {t : TypeId} (h : W.heap[k]? = some (.cells #[u, v] t)) : W.cell? ⟨k, 0, none⟩ = some u ∧ W.cell? ⟨k, 1, none⟩ = some v := by
 simp [World.cell?, h]
def mQ (n R : Nat) (w : World) : Nat := match w.cell? ⟨R, 3, none⟩ with | some (.int _ e) => if e = 0 then n + 2 - rdAt w R else 0 | _ => 0
theorem Rq.at_ {w : World} {R : Nat} {ao : Option Addr} {cap : Nat} {l : List E.Tok} {i o e a : Nat} (h : Rq w R ao cap l i o e a) : rdAt w R = i := by
 have := (cells_five h.box).2.1
 unfold rdAt
 rw [this]
 simp
theorem Rq.m0 {w : World} {R : Nat} {ao : Option Addr} {cap : Nat} {l : List E.Tok} {i o a : Nat} (h : Rq w R ao cap l i o 0 a) (n : Nat) : mQ n R w = n + 2 - i := by
 have := (cells_five h.box).2.2.2.1
 unfold mQ
 rw [this, h.at_]
 simp
theorem Rq.m1 {w : World} {R : Nat} {ao : Option Addr} {cap : Nat} {l : List E.Tok} {i o e a : Nat} (h : Rq w R ao cap l i o e a) (he : e ≠ 0) (n : Nat) : mQ n R w = 0 := by
 have := (cells_five h.box).2.2.2.1
 unfold mQ
 rw [this]
 have : ¬ (e : Int) = 0 := by omega
 simp [he]
set_option maxRecDepth 100000 in
set_option maxHeartbeats 2000000 in
theorem setQ {w : World} {R : Nat} {ao : Option Addr} {cap : Nat} {l : List E.Tok} {i o a : Nat} (h : Rq w R ao cap l i o 0 a) (hl : l.length ≤ 40000) (hi : i < l.length) :
   Calls Tryz.prog 169 #[.pointer (some ⟨R, 0, none⟩)] w (AnsSt (E.square l i) (tk l i).2 R ao cap l o a w) := by
 have HI : Hid (E.square l i = _) := hide (by unfold E.square; rfl)
 generalize E.square l i = r at *
 generalize (tk l i).2 = p at *
 have hRl := h.lt
 obtain ⟨c0, c1, c2, c3, c4⟩ := cells_five h.box
 have f1 := h.frz 1
 have h2 := h.put (i + 1)
 have hk2 : Kp w.heap.size R w _ := h.kp (Kp.refl _ _ _) 1 (.int .i64 ((i + 1 : Nat) : Int))
 have HE : ((i + 1 : Nat) : Int) = (i : Int) + 1 := by omega
 rw [HE] at h2 hk2
 obtain ⟨w2, hw2⟩ : ∃ w2, w.setCell ⟨R, 1, none⟩ (.int .i64 ((i : Int) + 1)) = w2 := ⟨_, rfl⟩
 rw [hw2] at h2 hk2
 have hs := signQ [94] h2
 simp only [decide_true, Bool.true_and] at hs
 have hst : isS (tk l (i + 1)) [94] = true → i + 1 < l.length := E.isS_lt
 generalize isS (tk l (i + 1)) [94] = nt at *
 go_enter Tryz.func169, Tryz.ntmps169
 go_wp2_with fail
 refine hs.mono ?_
 rintro e w3 ⟨rfl, hb3⟩
 have h3 := h2.later hb3
 have hk3 := hk2.nb hk2.size hb3
 clear hs h2 hk2 hb3 h c0 c1 c2 c3 c4 f1 hw2
 obtain ⟨c0, c1, c2, c3, c4⟩ := cells_five h3.box
 have f1 := h3.frz 1
 cases nt with
 | false =>
   have hj0 : i + 1 ≤ l.length := by omega
   have h4 := h3
   have hk4 := hk3
   have HIa : Hid (r = match E.items (l.length + 1) l (i + 1) [] with | .error e => .error e | .ok (acc, j) => if E.finE false acc = 0 then .ok (.mk 1 (p : Int) (E.finS false acc) [] [], j + 1) else .error (30, j)) := HI
   clear HI
   obtain ⟨j0, HJ⟩ : ∃ j0, Hid (i + 1 = j0) := ⟨_, hide rfl⟩
   rw [HJ.out] at HIa h4 hj0
   clear h3 hk3 c0 c1 c2 c3 c4 f1 HJ hst
   go_wp2
   go_loopw [4] (fun v wr => SetSt R ao cap l o a w (E.items (l.length + 1) l j0 []) v wr) (fun _ wr => mQ l.length R wr)
   case atStart => exact ⟨j0, [], U.ownR_nil _ _ _, hk4, by simp, .inl ⟨l.length + 1, h4, hj0, by omega, by simp, rfl⟩⟩
   case round =>
     obtain ⟨j, acc, hown, hk, hal, hst⟩ := hrel
     rcases hst with ⟨n, hR, hj, hn, hacc, HT⟩ | ⟨c, k, hc, hR, HT⟩
     · have HTT := hide HT
       have HN := hide hn
       clear HT hn h4 hk4
       obtain ⟨m, HM⟩ : ∃ m, Hid (n = m + 1) := ⟨n - 1, hide (by have := HN.out; omega)⟩
       have HI93 : Hid (E.items (l.length + 1) l j0 [] = if isS (tk l j) [93] = true then .ok (acc, j) else match E.item l j with | .error e => .error e | .ok (s, k) => E.items m l k (acc ++ s)) := hide (by rw [HTT.out, HM.out]; rfl)
       have hlt93 : isS (tk l j) [93] = true → j < l.length := E.isS_lt
       have hs93 := signQ [93] hR
       simp only [decide_true, Bool.true_and] at hs93
       obtain ⟨c0, c1, c2, c3, c4⟩ := cells_five hR.box
       clear HTT
       cases hq : isS (tk l j) [93] with
       | true =>
         rw [hq] at hs93 HI93
         rw [if_pos rfl] at HI93
         have hjl := hlt93 hq
         clear hlt93 hq HN HM
         go_wp2_with fail
         refine hs93.mono ?_
         rintro e x1 ⟨rfl, hb1⟩
         have hR1 := hR.later hb1
         have hk1 := hk.nb hk.size hb1
         have hown1 := ownR_at hown (fun k _ hk => hb1.block k hk)
         obtain ⟨ap, cp, rfl, _, _, hrd⟩ := hown1.rd
         have hnm := U.refNorm_any ap cp acc hal x1 hrd
         rw [normL_eq, normE_eq] at hnm
         obtain ⟨d0, d1, d2, d3, d4⟩ := cells_five hR1.box
         clear hs93 hR hk hown hown1 hb1 hrd c0 c1 c2 c3 c4
         go_wp2_with fail
         refine hnm.mono ?_
         rintro e x2 ⟨sp, sc, rfl, hr2, hb2⟩
         have hR2 := hR1.later hb2
         have hk2 := hk1.nb hk1.size hb2
         clear hnm hR1 hk1 hb2 d0 d1 d2 d3 d4
         have HLL := hide (nL_len acc)
         rcases nE_cases acc with hz | hz
         · rw [hz]
           have HO : Hid (r = .ok (.mk 1 (p : Int) (E.nL acc) [] [], j + 1)) := hide (by rw [HIa.out, HI93.out]; simp [E.finE, E.finS, hz])
           generalize E.nL acc = zs at *
           obtain ⟨d0, d1, d2, d3, d4⟩ := cells_five hR2.box
           have g1 := hR2.frz 1
           have h3 := hR2.put (j + 1)
           have hk3 := hR2.kp hk2 1 (.int .i64 ((j + 1 : Nat) : Int))
           have hr3 := rdr_put (j := 1) (v := .int .i64 ((j + 1 : Nat) : Int)) hr2 hR2.noI
           have HE9 : ((j + 1 : Nat) : Int) = (j : Int) + 1 := by omega
           rw [HE9] at h3 hk3 hr3
           have H3 := hide h3
           have HK := hide hk3
           have HR := hide hr3
           clear h3 hk3 hr3 HE9
           go_wp2
           go_ret
           exact ⟨HK.out, .inl ⟨_, _, _, _, HO.out, rfl, HR.out, H3.out⟩⟩
         · have HO : Hid (r = .error (30, j)) := hide (by rw [HIa.out, HI93.out]; simp [E.finE, hz])
           rw [hz]
           have hfl := failQ 30 j hR2
           obtain ⟨h3, hk3⟩ := hR2.failed hk2 30 j
           obtain ⟨d0, d1, d2, d3, d4⟩ := cells_five hR2.box
           have H3 := hide h3
           have HK := hide hk3
           clear h3 hk3
           go_wp2_with fail
           refine hfl.mono ?_
           rintro e x3 ⟨⟨v, rfl⟩, rfl⟩
           go_wp2
           go_ret
           exact ⟨HK.out, .inr ⟨30, j, _, _, _, _, HO.out, by decide, rfl, H3.out⟩⟩
       | false =>
         rw [hq] at hs93 HI93
         rw [if_neg (by decide)] at HI93
         clear hlt93 hq
         have HM0 := hide (hR.m0 l.length)
         have HIT : Hid (E.item l j = _) := hide (by unfold E.item; rfl)
         go_wp2_with fail
         refine hs93.mono ?_
         rintro e x1 ⟨rfl, hb1⟩
         have hn1 := nowQ (hR.later hb1)
         obtain ⟨t, ht⟩ : ∃ t, tk l j = t := ⟨_, rfl⟩
         rw [ht] at hn1 HIT
         unfold tokV at hn1
         clear hs93 c0 c1 c2 c3 c4
         go_wp2_with fail
         refine hn1.mono ?_
         rintro e x2 ⟨rfl, hb2⟩
         have a3 := al1 x2 (.cells #[.int .i64 (t.1.kind : Int), .int .i64 (t.2 : Int), .string ⟨t.1.text.toArray⟩, .int .i32 t.1.r] 58)
         have n3 := heap_alloc_new x2 (.cells #[.int .i64 (t.1.kind : Int), .int .i64 (t.2 : Int), .string ⟨t.1.text.toArray⟩, .int .i32 t.1.r] 58)
         obtain ⟨x3, hx3⟩ : ∃ x3, x2.alloc (.cells #[.int .i64 (t.1.kind : Int), .int .i64 (t.2 : Int), .string ⟨t.1.text.toArray⟩, .int .i32 t.1.r] 58) = x3 := ⟨_, rfl⟩
         rw [hx3] at a3 n3
         have hB3 := nx hb1 (nx hb2 a3)
         have hR3 := hR.later hB3
         have K3 : Kp wr.heap.size R wr x3 := Kp.of hB3
         have hws := hk.size
         have hRw : R < wr.heap.size := hR.lt
         obtain ⟨c0, c1, c2, c3, c4⟩ := cells_five hR3.box
         obtain ⟨b0, b1, b2, b3⟩ := cells_four n3
         have f1 := hR3.frz 1
         have own : ∀ W, Kp wr.heap.size R wr W → U.OwnR W w.heap.size 51 _ acc := fun W K => ownR_at hown (fun k hk hk' => K.block k hk' (by omega))
         have OWN := hide own
         have HNX : ∀ W, Kp wr.heap.size R wr W → Kp w.heap.size R w W := fun W K => hk.nx hk.size K
         have HNXX := hide HNX
         clear own HNX hown hn1 hb1 hb2 a3 hB3 hR
         by_cases k5 : t.1.kind = 5
         · have e5 : ((t.1.kind : Int) == 5) = true := by simp [k5]
           have hpq := propQ hR3 (by omega)
           rw [ht] at hpq
           have hjl : j < l.length := E.tk_lt (by rw [ht]; omega)
           have HIT : Hid (E.item l j = if U.kn t.1.text = true then .ok (U.tl t.1.text, j + 1) else .error (50, j)) := hide (by rw [HIT.out, if_neg (by omega), if_pos k5])
           have htl := E.tl_len t.1.text
           clear k5
           generalize U.kn t.1.text = kk at *
           generalize U.tl t.1.text = zs at *
           go_wp2_with fail
           refine hpq.mono ?_
           rintro e x4 ⟨hk4, ⟨hkn, sp, sc, rfl, hr4, hn4, hR4⟩ | ⟨hkn, rfl, hR4⟩⟩
           · have K4 := K3.nx K3.size hk4
             have hown4 := OWN.out x4 K4
             have hK4 := HNXX.out x4 K4
             have hz4 := K4.size
             rw [HIT.out, hkn, if_pos rfl] at HI93
             clear hpq hkn hk4
             go_wp2_with (refine U.wpl_appR (T := 23) (e := 51) rfl info51k rfl _ _ rfl w.heap.size _ acc sp zs _ sc rfl rfl rfl hown4 (by omega) hr4 hn4 (by omega) ?_; intro v5 x5 hown5 hb5 hg5)
             have hR5 := hR4.below hb5 (by omega)
             have hK5 := hK4.trans (Kp.of hb5)
             go_roundw
             case rel => exact ⟨j + 1, acc ++ zs, hown5, hK5, by rw [List.length_append]; omega, .inl ⟨m, hR5, by omega, by have := HN.out; have := HM.out; omega, by rw [List.length_append]; omega, HI93.out⟩⟩
             case measure => rw [hR5.m0, HM0.out]; omega
           · have K4 := K3.nx K3.size hk4
             have hown4 := OWN.out x4 K4
             have hK4 := HNXX.out x4 K4
             have hz4 := K4.size
             rw [HIT.out, hkn, if_neg (by decide)] at HI93
             clear hpq hkn hk4
             have hr4 : U.RdR x4 none ([] : List U.S.R) := fun i hi => by simp at hi
             go_wp2_with (refine U.wpl_appR (T := 23) (e := 51) rfl info51k rfl _ _ rfl w.heap.size _ acc none [] _ 0 rfl rfl rfl hown4 (by omega) hr4 (fun _ => rfl) (by simp; omega) ?_; intro v5 x5 hown5 hb5 hg5)
             have hR5 := hR4.below hb5 (by omega)
             have hK5 := hK4.trans (Kp.of hb5)
             go_roundw
             case rel => exact ⟨j, acc ++ [], hown5, hK5, by rw [List.length_append]; simp; omega, .inr ⟨50, j, by decide, hR5, HI93.out⟩⟩
             case measure => rw [hR5.m1 (by decide), HM0.out]; omega
         · have e5 : ((t.1.kind : Int) == 5) = false := by simp; omega
           by_cases k4 : t.1.kind = 4
           · have e4 : ((t.1.kind : Int) == 4) = true := by simp [k4]
             have hjl : j < l.length := E.tk_lt (by rw [ht]; omega)
             rw [HIT.out, if_pos k4] at HI93
             clear k4 HIT k5
             have hR4 := hR3.put (j + 1)
             have K4 := hR3.kp K3 1 (.int .i64 ((j + 1 : Nat) : Int))
             have HE1 : ((j + 1 : Nat) : Int) = (j : Int) + 1 := by omega
             rw [HE1] at hR4 K4
             have q3 := (Below.heap_setCell x3 ⟨R, 1, none⟩ (.int .i64 ((j : Int) + 1)) x2.heap.size (by show x2.heap.size ≠ R; have := K3.size; have := (Array.getElem?_eq_some_iff.1 n3).1; have := hR3.lt; intro e; rw [e] at n3; rw [hR3.box] at n3; cases n3)).trans n3
             obtain ⟨x4, hx4⟩ : ∃ x4, x3.setCell ⟨R, 1, none⟩ (.int .i64 ((j : Int) + 1)) = x4 := ⟨_, rfl⟩
             rw [hx4] at hR4 K4 q3
             obtain ⟨y0, y1, y2, y3⟩ := cells_four q3
             have a5 := al1 x4 (.cells #[.int .i32 t.1.r, .int .i32 t.1.r] 51)
             have n5 := heap_alloc_new x4 (.cells #[.int .i32 t.1.r, .int .i32 t.1.r] 51)
             obtain ⟨x5, hx5⟩ : ∃ x5, x4.alloc (.cells #[.int .i32 t.1.r, .int .i32 t.1.r] 51) = x5 := ⟨_, rfl⟩
             rw [hx5] at a5 n5
             have hR5 := hR4.later a5
             have K5 := K4.nb K4.size a5
             have hs45 := signQ [45] hR5
             simp only [decide_true, Bool.true_and] at hs45
             have hz4 : wr.heap.size ≤ x4.heap.size := K4.size
             have N5 := hide n5
             cases hq45 : isS (tk l (j + 1)) [45] with
             | false =>
               rw [hq45] at hs45 HI93
               rw [if_neg (by decide)] at HI93
               clear hq45 hR4 K4 q3 a5 n5
               go_wp2_with fail
               refine hs45.mono ?_
               rintro e x6 ⟨rfl, hb6⟩
               have hR6 := hR5.later hb6
               have K6 := K5.nb K5.size hb6
               have n6 := (hb6.block x4.heap.size (Array.getElem?_eq_some_iff.1 N5.out).1).trans N5.out
               obtain ⟨z0, z1⟩ := cells_2q n6
               have hr7 := new_rowQ (w := x6) (x := t.1.r) (y := t.1.r)
               have a7 := al1 x6 (.cells #[.int .i32 t.1.r, .int .i32 t.1.r] 51)
               obtain ⟨x7, hx7⟩ : ∃ x7, x6.alloc (.cells #[.int .i32 t.1.r, .int .i32 t.1.r] 51) = x7 := ⟨_, rfl⟩
               rw [hx7] at hr7 a7
               have hR7 := hR6.later a7
               have K7 := K6.nb K6.size a7
               have hown7 := OWN.out x7 K7
               have hK7 := HNXX.out x7 K7
               have hz7 := K7.size
               have HR7 := hide hR7
               clear hs45 hR5 hR6 K5 K6 hb6 n6 a7 c0 c1 c2 c3 c4 b0 b1 b2 b3 y0 y1 y2 y3 f1 hR3 hx3 hx4 hx5
               go_wp2_with (refine U.wpl_appR (T := 23) (e := 51) rfl info51k rfl _ _ rfl w.heap.size _ acc (some ⟨x6.heap.size, 0, none⟩) [(t.1.r, t.1.r)] _ 1 rfl rfl rfl hown7 (by omega) hr7 (fun e => by cases e) (by simp; omega) ?_; intro v8 x8 hown8 hb8 hg8)
               have hR8 := HR7.out.below hb8 (by omega)
               have hK8 := hK7.trans (Kp.of hb8)
               go_roundw
               case rel => exact ⟨j + 1, acc ++ [(t.1.r, t.1.r)], hown8, hK8, by rw [List.length_append]; simp; omega, .inl ⟨m, hR8, by omega, by have := HN.out; have := HM.out; omega, by rw [List.length_append]; simp; omega, HI93.out⟩⟩
               case measure => rw [hR8.m0, HM0.out]; omega
             | true =>
               have hjl1 : j + 1 < l.length := E.isS_lt hq45
               rw [hq45] at hs45 HI93
               rw [if_pos rfl] at HI93
               clear hq45 hR4 K4 q3 a5 n5
               go_wp2_with fail
               refine hs45.mono ?_
               rintro e x6 ⟨rfl, hb6⟩
               have hR6 := hR5.later hb6
               have K6 := K5.nb K5.size hb6
               have n6 := (hb6.block x4.heap.size (Array.getElem?_eq_some_iff.1 N5.out).1).trans N5.out
               obtain ⟨d0, d1, d2, d3, d4⟩ := cells_five hR6.box
               rw [HE1] at d1
               have g1 := hR6.frz 1
               have hR7 := hR6.put (j + 2)
               have K7 := hR6.kp K6 1 (.int .i64 ((j + 2 : Nat) : Int))
               have HE2 : ((j + 2 : Nat) : Int) = (j : Int) + 1 + 1 := by omega
               have hRx : ¬ x4.heap.size = R := by omega
               have n7 := (Below.heap_setCell x6 ⟨R, 1, none⟩ (.int .i64 ((j + 2 : Nat) : Int)) x4.heap.size hRx).trans n6
               rw [HE2] at hR7 K7 n7
               obtain ⟨x7, hx7⟩ : ∃ x7, x6.setCell ⟨R, 1, none⟩ (.int .i64 ((j : Int) + 1 + 1)) = x7 := ⟨_, rfl⟩
               rw [hx7] at hR7 K7 n7
               have hn7 := nowQ hR7
               have HN7 := hide n7
               obtain ⟨u, hu⟩ : ∃ u, tk l (j + 2) = u := ⟨_, rfl⟩
               rw [hu] at hn7 HI93
               unfold tokV at hn7
               have hf0 := field0 (u.1.kind : Int) (u.2 : Int) u.1.r ⟨u.1.text.toArray⟩
               have hf3 := field3 (u.1.kind : Int) (u.2 : Int) u.1.r ⟨u.1.text.toArray⟩
               clear hs45 hR5 hR6 K5 K6 hb6 n6 n7 c0 c1 c2 c3 c4 b0 b1 b2 b3 y0 y1 y2 y3 f1 hR3 hx3 hx4 hx5 HE1
               go_wp2_with fail
               refine hn7.mono ?_
               rintro e x8 ⟨rfl, hb8⟩
               have hR8 := hR7.later hb8
               have K8 := K7.nb K7.size hb8
               have n8 := (hb8.block x4.heap.size (Array.getElem?_eq_some_iff.1 HN7.out).1).trans HN7.out
               obtain ⟨s0, s1, s2, s3, s4⟩ := cells_five hR8.box
               rw [HE2] at s1
               clear hn7 hR7 K7 hb8 d0 d1 d2 d3 d4 g1 hx7
               by_cases ku : u.1.kind = 4
               · have eu : ((u.1.kind : Int) != 4) = false := by simp [ku]
                 rw [if_pos ku] at HI93
                 have hjl2 : j + 2 < l.length := E.tk_lt (by rw [hu]; omega)
                 have hn8 := nowQ hR8
                 rw [hu] at hn8
                 unfold tokV at hn8
                 have N8 := hide n8
                 clear ku n8
                 go_wp2_with fail
                 refine hn8.mono ?_
                 rintro e x9 ⟨rfl, hb9⟩
                 have hR9 := hR8.later hb9
                 have K9 := K8.nb K8.size hb9
                 have n9 := (hb9.block x4.heap.size (Array.getElem?_eq_some_iff.1 N8.out).1).trans N8.out
                 obtain ⟨z0, z1⟩ := cells_2q n9
                 have gz := frozen_row n9 1
                 have hlt4 : wr.heap.size ≤ x4.heap.size := hz4
                 have K10 := K9.set (p := ⟨x4.heap.size, 1, none⟩) (.inr hlt4) (.int .i32 u.1.r)
                 have hR10 := hR9.but (W := x9.setCell ⟨x4.heap.size, 1, none⟩ (.int .i32 u.1.r)) (x := x4.heap.size) (fun k _ hk => Below.heap_setCell _ _ _ _ hk) (by omega)
                 have n10 : (x9.setCell ⟨x4.heap.size, 1, none⟩ (.int .i32 u.1.r)).heap[x4.heap.size]? = some (.cells #[.int .i32 t.1.r, .int .i32 u.1.r] 51) := by simp [World.setCell, Array.getElem?_modify, n9]
                 obtain ⟨x10, hx10⟩ : ∃ x10, x9.setCell ⟨x4.heap.size, 1, none⟩ (.int .i32 u.1.r) = x10 := ⟨_, rfl⟩
                 rw [hx10] at K10 hR10 n10
                 obtain ⟨d0, d1, d2, d3, d4⟩ := cells_five hR10.box
                 rw [HE2] at d1
                 have g1 := hR10.frz 1
                 have hR11 := hR10.put (j + 3)
                 have K11 := hR10.kp K10 1 (.int .i64 ((j + 3 : Nat) : Int))
                 have HE3 : ((j + 3 : Nat) : Int) = (j : Int) + 1 + 1 + 1 := by omega
                 have n11 := (Below.heap_setCell x10 ⟨R, 1, none⟩ (.int .i64 ((j + 3 : Nat) : Int)) x4.heap.size hRx).trans n10
                 rw [HE3] at hR11 K11 n11
                 obtain ⟨x11, hx11⟩ : ∃ x11, x10.setCell ⟨R, 1, none⟩ (.int .i64 ((j : Int) + 1 + 1 + 1)) = x11 := ⟨_, rfl⟩
                 rw [hx11] at hR11 K11 n11
                 obtain ⟨v0, v1⟩ := cells_2q n11
                 clear hn8 hR8 K8 hb9 hR9 K9 n9 K10 hR10 n10 n11 HE3
                 by_cases hle : t.1.r ≤ u.1.r
                 · have el : decide (u.1.r < t.1.r) = false := decide_eq_false (by omega)
                   rw [if_pos hle] at HI93
                   have hr12 := new_rowQ (w := x11) (x := t.1.r) (y := u.1.r)
                   have a12 := al1 x11 (.cells #[.int .i32 t.1.r, .int .i32 u.1.r] 51)
                   obtain ⟨x12, hx12⟩ : ∃ x12, x11.alloc (.cells #[.int .i32 t.1.r, .int .i32 u.1.r] 51) = x12 := ⟨_, rfl⟩
                   rw [hx12] at hr12 a12
                   have HR12 := hide (hR11.later a12)
                   have K12 := K11.nb K11.size a12
                   have hown12 := OWN.out x12 K12
                   have hK12 := HNXX.out x12 K12
                   have hz12 := K12.size
                   clear hle hR11 K11 a12
                   go_wp2_with (refine U.wpl_appR (T := 23) (e := 51) rfl info51k rfl _ _ rfl w.heap.size _ acc (some ⟨x11.heap.size, 0, none⟩) [(t.1.r, u.1.r)] _ 1 rfl rfl rfl hown12 (by omega) hr12 (fun e => by cases e) (by simp; omega) ?_; intro v13 x13 hown13 hb13 hg13)
                   have hR13 := HR12.out.below hb13 (by omega)
                   have hK13 := hK12.trans (Kp.of hb13)
                   go_roundw
                   case rel => exact ⟨j + 3, acc ++ [(t.1.r, u.1.r)], hown13, hK13, by rw [List.length_append]; simp; omega, .inl ⟨m, hR13, by omega, by have := HN.out; have := HM.out; omega, by rw [List.length_append]; simp; omega, HI93.out⟩⟩
                   case measure => rw [hR13.m0, HM0.out]; omega
                 · have el : decide (u.1.r < t.1.r) = true := decide_eq_true (by omega)
                   rw [if_neg hle] at HI93
                   have hfl := failQ 30 j hR11
                   obtain ⟨h12, K12⟩ := hR11.failed K11 30 j
                   have m12 := (Below.heap_setCell (x11.setCell ⟨R, 3, none⟩ (.int .i64 ((30 : Nat) : Int))) ⟨R, 4, none⟩ (.int .i64 (j : Int)) x4.heap.size hRx).trans (Below.heap_setCell x11 ⟨R, 3, none⟩ (.int .i64 ((30 : Nat) : Int)) x4.heap.size hRx)
                   have V0 := hide v0
                   have V1 := hide v1
                   clear hle
                   go_wp2_with fail
                   refine hfl.mono ?_
                   rintro e x12 ⟨⟨vv, rfl⟩, hx12⟩
                   rw [← hx12] at h12 K12 m12
                   have v0' : x12.cell? ⟨x4.heap.size, 0, none⟩ = some (.int .i32 t.1.r) := (World.cell?_of_block (w := x11) (a := ⟨x4.heap.size, 0, none⟩) m12).trans V0.out
                   have v1' : x12.cell? ⟨x4.heap.size, 1, none⟩ = some (.int .i32 u.1.r) := (World.cell?_of_block (w := x11) (a := ⟨x4.heap.size, 1, none⟩) m12).trans V1.out
                   have hr13 := new_rowQ (w := x12) (x := t.1.r) (y := u.1.r)
                   have a13 := al1 x12 (.cells #[.int .i32 t.1.r, .int .i32 u.1.r] 51)
                   obtain ⟨x13, hx13⟩ : ∃ x13, x12.alloc (.cells #[.int .i32 t.1.r, .int .i32 u.1.r] 51) = x13 := ⟨_, rfl⟩
                   rw [hx13] at hr13 a13
                   have HR13 := hide (h12.later a13)
                   have K13 := K12.nb K12.size a13
                   have hown13 := OWN.out x13 K13
                   have hK13 := HNXX.out x13 K13
                   have hz13 := K13.size
                   clear hfl hR11 K11 h12 K12 m12 a13 v0 v1 hx12
                   go_wp2_with (refine U.wpl_appR (T := 23) (e := 51) rfl info51k rfl _ _ rfl w.heap.size _ acc (some ⟨x12.heap.size, 0, none⟩) [(t.1.r, u.1.r)] _ 1 rfl rfl rfl hown13 (by omega) hr13 (fun e => by cases e) (by simp; omega) ?_; intro v14 x14 hown14 hb14 hg14)
                   have hR14 := HR13.out.below hb14 (by omega)
                   have hK14 := hK13.trans (Kp.of hb14)
                   go_roundw
                   case rel => exact ⟨j + 3, acc ++ [(t.1.r, u.1.r)], hown14, hK14, by rw [List.length_append]; simp; omega, .inr ⟨30, j, by decide, hR14, HI93.out⟩⟩
                   case measure => rw [hR14.m1 (by decide), HM0.out]; omega
               · have eu : ((u.1.kind : Int) != 4) = true := by simp; omega
                 rw [if_neg ku] at HI93
                 have HO : Hid (r = .error (70, j + 2)) := hide (by rw [HIa.out, HI93.out])
                 have hfl := failQ 70 (j + 2) hR8
                 rw [HE2] at hfl
                 obtain ⟨h9, K9⟩ := hR8.failed K8 70 (j + 2)
                 rw [HE2] at h9 K9
                 have H9 := hide h9
                 have HK9 := hide (HNXX.out _ K9)
                 clear h9 K9 ku
                 go_wp2_with fail
                 refine hfl.mono ?_
                 rintro e x9 ⟨⟨v, rfl⟩, rfl⟩
                 go_wp2
                 go_ret
                 exact ⟨HK9.out, .inr ⟨70, j + 2, _, _, _, _, HO.out, by decide, rfl, H9.out⟩⟩
           · have e4 : ((t.1.kind : Int) == 4) = false := by simp; omega
             rw [HIT.out, if_neg k4, if_neg k5] at HI93
             have hfl := failQ 70 j hR3
             obtain ⟨h4, K4⟩ := hR3.failed K3 70 j
             have hown4 := OWN.out _ K4
             have hK4 := HNXX.out _ K4
             have H4 := hide h4
             have HO4 := hide hown4
             have HK4 := hide hK4
             clear h4 K4 hown4 hK4
             go_wp2_with fail
             refine hfl.mono ?_
             rintro e x4 ⟨⟨v, rfl⟩, hx4⟩
             rw [← hx4] at H4 HO4 HK4
             clear hx4 hfl
             go_wp2
             go_roundw
             case rel => exact ⟨j, acc, HO4.out, HK4.out, hal, .inr ⟨70, j, by decide, H4.out, HI93.out⟩⟩
             case measure => rw [H4.out.m1 (by decide), HM0.out]; omega
     · have HO : Hid (r = .error (c, k)) := hide (by rw [HIa.out, HT])
       have e1 : ((c : Int) == 0) = false := by simp; omega
       have e2 : ((c : Int) != 0) = true := by simp; omega
       obtain ⟨c0, c1, c2, c3, c4⟩ := cells_five hR.box
       have HK := hide hk
       have H3 := hide hR
       have HC := hide hc
       clear hc HT h4 hk4 hk hR
       go_wp2
       go_ret
       exact ⟨HK.out, .inr ⟨c, k, j, _, _, _, HO.out, HC.out, rfl, H3.out⟩⟩
 | true =>
   have hj0 : i + 2 ≤ l.length := by have := hst rfl; omega
   have h4 := h3.put (i + 2)
   have hk4 := h3.kp hk3 1 (.int .i64 ((i + 2 : Nat) : Int))
   have HE2 : ((i + 2 : Nat) : Int) = (i : Int) + 1 + 1 := by omega
   rw [HE2] at h4 hk4
   obtain ⟨w4, hw4⟩ : ∃ w4, w3.setCell ⟨R, 1, none⟩ (.int .i64 ((i : Int) + 1 + 1)) = w4 := ⟨_, rfl⟩
   rw [hw4] at h4 hk4
   have HIa : Hid (r = match E.items (l.length + 1) l (i + 2) [] with | .error e => .error e | .ok (acc, j) => if E.finE true acc = 0 then .ok (.mk 1 (p : Int) (E.finS true acc) [] [], j + 1) else .error (30, j)) := HI
   clear HI
   obtain ⟨j0, HJ⟩ : ∃ j0, Hid (i + 2 = j0) := ⟨_, hide rfl⟩
   rw [HJ.out] at HIa h4 hj0
   clear h3 hk3 HJ hst
   rw [HE] at c1
   clear HE HE2
   go_wp2
   clear c0 c1 c2 c3 c4 f1
   go_loopw [4] (fun v wr => SetSt R ao cap l o a w (E.items (l.length + 1) l j0 []) v wr) (fun _ wr => mQ l.length R wr)
   case atStart => exact ⟨j0, [], U.ownR_nil _ _ _, hk4, by simp, .inl ⟨l.length + 1, h4, hj0, by omega, by simp, rfl⟩⟩
   case round =>
     obtain ⟨j, acc, hown, hk, hal, hst⟩ := hrel
     rcases hst with ⟨n, hR, hj, hn, hacc, HT⟩ | ⟨c, k, hc, hR, HT⟩
     · have HTT := hide HT
       have HN := hide hn
       clear HT hn h4 hk4
       obtain ⟨m, HM⟩ : ∃ m, Hid (n = m + 1) := ⟨n - 1, hide (by have := HN.out; omega)⟩
       have HI93 : Hid (E.items (l.length + 1) l j0 [] = if isS (tk l j) [93] = true then .ok (acc, j) else match E.item l j with | .error e => .error e | .ok (s, k) => E.items m l k (acc ++ s)) := hide (by rw [HTT.out, HM.out]; rfl)
       have hlt93 : isS (tk l j) [93] = true → j < l.length := E.isS_lt
       have hs93 := signQ [93] hR
       simp only [decide_true, Bool.true_and] at hs93
       obtain ⟨c0, c1, c2, c3, c4⟩ := cells_five hR.box
       clear HTT
       cases hq : isS (tk l j) [93] with
       | true =>
         rw [hq] at hs93 HI93
         rw [if_pos rfl] at HI93
         have hjl := hlt93 hq
         clear hlt93 hq HN HM
         go_wp2_with fail
         refine hs93.mono ?_
         rintro e x1 ⟨rfl, hb1⟩
         have hR1 := hR.later hb1
         have hk1 := hk.nb hk.size hb1
         have hown1 := ownR_at hown (fun k _ hk => hb1.block k hk)
         obtain ⟨ap, cp, rfl, _, _, hrd⟩ := hown1.rd
         have hnm := U.refNorm_any ap cp acc hal x1 hrd
         rw [normL_eq, normE_eq] at hnm
         obtain ⟨d0, d1, d2, d3, d4⟩ := cells_five hR1.box
         clear hs93 hR hk hown hown1 hb1 hrd c0 c1 c2 c3 c4
         go_wp2_with fail
         refine hnm.mono ?_
         rintro e x2 ⟨sp, sc, rfl, hr2, hb2⟩
         have hR2 := hR1.later hb2
         have hk2 := hk1.nb hk1.size hb2
         clear hnm hR1 hk1 hb2 d0 d1 d2 d3 d4
         have HLL := hide (nL_len acc)
         rcases nE_cases acc with hz | hz
         · rw [hz]
           have HO2 : Hid (r = if E.nE (U.S.not (E.nL acc)) = 0 then .ok (.mk 1 (p : Int) (E.nL (U.S.not (E.nL acc))) [] [], j + 1) else .error (30, j)) := hide (by rw [HIa.out, HI93.out]; simp [E.finE, E.finS, hz])
           have hnl := not_len (E.nL acc)
           have hll := HLL.out
           generalize E.nL acc = zs at *
           have hnt := U.refNot_any sp sc zs (by omega) x2 hr2
           have hn2 := fun (W : World) (a : Option Addr) (c : Nat) (hrr : U.RdR W a (U.S.not zs)) => U.refNorm_any a c (U.S.not zs) (by omega) W hrr
           generalize U.S.not zs = ys at *
           go_wp2_with fail
           refine hnt.mono ?_
           rintro e x3 ⟨sp2, sc2, rfl, hr3, _, hb3⟩
           have hR3 := hR2.later hb3
           have hk3 := hk2.nb hk2.size hb3
           have hn3 := hn2 x3 sp2 sc2 hr3
           rw [normL_eq, normE_eq] at hn3
           clear hnt hn2 hR2 hk2 hr2 hb3
           go_wp2_with fail
           refine hn3.mono ?_
           rintro e x4 ⟨sp3, sc3, rfl, hr4, hb4⟩
           have hR4 := hR3.later hb4
           have hk4 := hk3.nb hk3.size hb4
           clear hn3 hR3 hk3 hr3 hb4
           rcases nE_cases ys with hz2 | hz2
           · have HO : Hid (r = .ok (.mk 1 (p : Int) (E.nL ys) [] [], j + 1)) := hide (by rw [HO2.out, hz2]; rfl)
             rw [hz2]
             generalize E.nL ys = vs at *
             obtain ⟨d0, d1, d2, d3, d4⟩ := cells_five hR4.box
             have g1 := hR4.frz 1
             have h3 := hR4.put (j + 1)
             have hk3 := hR4.kp hk4 1 (.int .i64 ((j + 1 : Nat) : Int))
             have hr3 := rdr_put (j := 1) (v := .int .i64 ((j + 1 : Nat) : Int)) hr4 hR4.noI
             have HE9 : ((j + 1 : Nat) : Int) = (j : Int) + 1 := by omega
             rw [HE9] at h3 hk3 hr3
             have H3 := hide h3
             have HK := hide hk3
             have HR := hide hr3
             clear h3 hk3 hr3 HE9
             go_wp2
             go_ret
             exact ⟨HK.out, .inl ⟨_, _, _, _, HO.out, rfl, HR.out, H3.out⟩⟩
           · have HO : Hid (r = .error (30, j)) := hide (by rw [HO2.out, hz2]; rfl)
             rw [hz2]
             have hfl := failQ 30 j hR4
             obtain ⟨h3, hk3⟩ := hR4.failed hk4 30 j
             obtain ⟨d0, d1, d2, d3, d4⟩ := cells_five hR4.box
             have H3 := hide h3
             have HK := hide hk3
             clear h3 hk3
             go_wp2_with fail
             refine hfl.mono ?_
             rintro e x5 ⟨⟨v, rfl⟩, rfl⟩
             go_wp2
             go_ret
             exact ⟨HK.out, .inr ⟨30, j, _, _, _, _, HO.out, by decide, rfl, H3.out⟩⟩
         · have HO : Hid (r = .error (30, j)) := hide (by rw [HIa.out, HI93.out]; simp [E.finE, hz])
           rw [hz]
           have hfl := failQ 30 j hR2
           obtain ⟨h3, hk3⟩ := hR2.failed hk2 30 j
           obtain ⟨d0, d1, d2, d3, d4⟩ := cells_five hR2.box
           have H3 := hide h3
           have HK := hide hk3
           clear h3 hk3
           go_wp2_with fail
           refine hfl.mono ?_
           rintro e x3 ⟨⟨v, rfl⟩, rfl⟩
           go_wp2
           go_ret
           exact ⟨HK.out, .inr ⟨30, j, _, _, _, _, HO.out, by decide, rfl, H3.out⟩⟩
       | false =>
         rw [hq] at hs93 HI93
         rw [if_neg (by decide)] at HI93
         clear hlt93 hq
         have HM0 := hide (hR.m0 l.length)
         have HIT : Hid (E.item l j = _) := hide (by unfold E.item; rfl)
         go_wp2_with fail
         refine hs93.mono ?_
         rintro e x1 ⟨rfl, hb1⟩
         have hn1 := nowQ (hR.later hb1)
         obtain ⟨t, ht⟩ : ∃ t, tk l j = t := ⟨_, rfl⟩
         rw [ht] at hn1 HIT
         unfold tokV at hn1
         clear hs93 c0 c1 c2 c3 c4
         go_wp2_with fail
         refine hn1.mono ?_
         rintro e x2 ⟨rfl, hb2⟩
         have a3 := al1 x2 (.cells #[.int .i64 (t.1.kind : Int), .int .i64 (t.2 : Int), .string ⟨t.1.text.toArray⟩, .int .i32 t.1.r] 58)
         have n3 := heap_alloc_new x2 (.cells #[.int .i64 (t.1.kind : Int), .int .i64 (t.2 : Int), .string ⟨t.1.text.toArray⟩, .int .i32 t.1.r] 58)
         obtain ⟨x3, hx3⟩ : ∃ x3, x2.alloc (.cells #[.int .i64 (t.1.kind : Int), .int .i64 (t.2 : Int), .string ⟨t.1.text.toArray⟩, .int .i32 t.1.r] 58) = x3 := ⟨_, rfl⟩
         rw [hx3] at a3 n3
         have hB3 := nx hb1 (nx hb2 a3)
         have hR3 := hR.later hB3
         have K3 : Kp wr.heap.size R wr x3 := Kp.of hB3
         have hws := hk.size
         have hRw : R < wr.heap.size := hR.lt
         obtain ⟨c0, c1, c2, c3, c4⟩ := cells_five hR3.box
         obtain ⟨b0, b1, b2, b3⟩ := cells_four n3
         have f1 := hR3.frz 1
         have own : ∀ W, Kp wr.heap.size R wr W → U.OwnR W w.heap.size 51 _ acc := fun W K => ownR_at hown (fun k hk hk' => K.block k hk' (by omega))
         have OWN := hide own
         have HNX : ∀ W, Kp wr.heap.size R wr W → Kp w.heap.size R w W := fun W K => hk.nx hk.size K
         have HNXX := hide HNX
         clear own HNX hown hn1 hb1 hb2 a3 hB3 hR
         by_cases k5 : t.1.kind = 5
         · have e5 : ((t.1.kind : Int) == 5) = true := by simp [k5]
           have hpq := propQ hR3 (by omega)
           rw [ht] at hpq
           have hjl : j < l.length := E.tk_lt (by rw [ht]; omega)
           have HIT : Hid (E.item l j = if U.kn t.1.text = true then .ok (U.tl t.1.text, j + 1) else .error (50, j)) := hide (by rw [HIT.out, if_neg (by omega), if_pos k5])
           have htl := E.tl_len t.1.text
           clear k5
           generalize U.kn t.1.text = kk at *
           generalize U.tl t.1.text = zs at *
           go_wp2_with fail
           refine hpq.mono ?_
           rintro e x4 ⟨hk4, ⟨hkn, sp, sc, rfl, hr4, hn4, hR4⟩ | ⟨hkn, rfl, hR4⟩⟩
           · have K4 := K3.nx K3.size hk4
             have hown4 := OWN.out x4 K4
             have hK4 := HNXX.out x4 K4
             have hz4 := K4.size
             rw [HIT.out, hkn, if_pos rfl] at HI93
             clear hpq hkn hk4
             go_wp2_with (refine U.wpl_appR (T := 23) (e := 51) rfl info51k rfl _ _ rfl w.heap.size _ acc sp zs _ sc rfl rfl rfl hown4 (by omega) hr4 hn4 (by omega) ?_; intro v5 x5 hown5 hb5 hg5)
             have hR5 := hR4.below hb5 (by omega)
             have hK5 := hK4.trans (Kp.of hb5)
             go_roundw
             case rel => exact ⟨j + 1, acc ++ zs, hown5, hK5, by rw [List.length_append]; omega, .inl ⟨m, hR5, by omega, by have := HN.out; have := HM.out; omega, by rw [List.length_append]; omega, HI93.out⟩⟩
             case measure => rw [hR5.m0, HM0.out]; omega
           · have K4 := K3.nx K3.size hk4
             have hown4 := OWN.out x4 K4
             have hK4 := HNXX.out x4 K4
             have hz4 := K4.size
             rw [HIT.out, hkn, if_neg (by decide)] at HI93
             clear hpq hkn hk4
             have hr4 : U.RdR x4 none ([] : List U.S.R) := fun i hi => by simp at hi
             go_wp2_with (refine U.wpl_appR (T := 23) (e := 51) rfl info51k rfl _ _ rfl w.heap.size _ acc none [] _ 0 rfl rfl rfl hown4 (by omega) hr4 (fun _ => rfl) (by simp; omega) ?_; intro v5 x5 hown5 hb5 hg5)
             have hR5 := hR4.below hb5 (by omega)
             have hK5 := hK4.trans (Kp.of hb5)
             go_roundw
             case rel => exact ⟨j, acc ++ [], hown5, hK5, by rw [List.length_append]; simp; omega, .inr ⟨50, j, by decide, hR5, HI93.out⟩⟩
             case measure => rw [hR5.m1 (by decide), HM0.out]; omega
         · have e5 : ((t.1.kind : Int) == 5) = false := by simp; omega
           by_cases k4 : t.1.kind = 4
           · have e4 : ((t.1.kind : Int) == 4) = true := by simp [k4]
             have hjl : j < l.length := E.tk_lt (by rw [ht]; omega)
             rw [HIT.out, if_pos k4] at HI93
             clear k4 HIT k5
             have hR4 := hR3.put (j + 1)
             have K4 := hR3.kp K3 1 (.int .i64 ((j + 1 : Nat) : Int))
             have HE1 : ((j + 1 : Nat) : Int) = (j : Int) + 1 := by omega
             rw [HE1] at hR4 K4
             have q3 := (Below.heap_setCell x3 ⟨R, 1, none⟩ (.int .i64 ((j : Int) + 1)) x2.heap.size (by show x2.heap.size ≠ R; have := K3.size; have := (Array.getElem?_eq_some_iff.1 n3).1; have := hR3.lt; intro e; rw [e] at n3; rw [hR3.box] at n3; cases n3)).trans n3
             obtain ⟨x4, hx4⟩ : ∃ x4, x3.setCell ⟨R, 1, none⟩ (.int .i64 ((j : Int) + 1)) = x4 := ⟨_, rfl⟩
             rw [hx4] at hR4 K4 q3
             obtain ⟨y0, y1, y2, y3⟩ := cells_four q3
             have a5 := al1 x4 (.cells #[.int .i32 t.1.r, .int .i32 t.1.r] 51)
             have n5 := heap_alloc_new x4 (.cells #[.int .i32 t.1.r, .int .i32 t.1.r] 51)
             obtain ⟨x5, hx5⟩ : ∃ x5, x4.alloc (.cells #[.int .i32 t.1.r, .int .i32 t.1.r] 51) = x5 := ⟨_, rfl⟩
             rw [hx5] at a5 n5
             have hR5 := hR4.later a5
             have K5 := K4.nb K4.size a5
             have hs45 := signQ [45] hR5
             simp only [decide_true, Bool.true_and] at hs45
             have hz4 : wr.heap.size ≤ x4.heap.size := K4.size
             have N5 := hide n5
             cases hq45 : isS (tk l (j + 1)) [45] with
             | false =>
               rw [hq45] at hs45 HI93
               rw [if_neg (by decide)] at HI93
               clear hq45 hR4 K4 q3 a5 n5
               go_wp2_with fail
               refine hs45.mono ?_
               rintro e x6 ⟨rfl, hb6⟩
               have hR6 := hR5.later hb6
               have K6 := K5.nb K5.size hb6
               have n6 := (hb6.block x4.heap.size (Array.getElem?_eq_some_iff.1 N5.out).1).trans N5.out
               obtain ⟨z0, z1⟩ := cells_2q n6
               have hr7 := new_rowQ (w := x6) (x := t.1.r) (y := t.1.r)
               have a7 := al1 x6 (.cells #[.int .i32 t.1.r, .int .i32 t.1.r] 51)
               obtain ⟨x7, hx7⟩ : ∃ x7, x6.alloc (.cells #[.int .i32 t.1.r, .int .i32 t.1.r] 51) = x7 := ⟨_, rfl⟩
               rw [hx7] at hr7 a7
               have hR7 := hR6.later a7
               have K7 := K6.nb K6.size a7
               have hown7 := OWN.out x7 K7
               have hK7 := HNXX.out x7 K7
               have hz7 := K7.size
               have HR7 := hide hR7
               clear hs45 hR5 hR6 K5 K6 hb6 n6 a7 c0 c1 c2 c3 c4 b0 b1 b2 b3 y0 y1 y2 y3 f1 hR3 hx3 hx4 hx5
               go_wp2_with (refine U.wpl_appR (T := 23) (e := 51) rfl info51k rfl _ _ rfl w.heap.size _ acc (some ⟨x6.heap.size, 0, none⟩) [(t.1.r, t.1.r)] _ 1 rfl rfl rfl hown7 (by omega) hr7 (fun e => by cases e) (by simp; omega) ?_; intro v8 x8 hown8 hb8 hg8)
               have hR8 := HR7.out.below hb8 (by omega)
               have hK8 := hK7.trans (Kp.of hb8)
               go_roundw
               case rel => exact ⟨j + 1, acc ++ [(t.1.r, t.1.r)], hown8, hK8, by rw [List.length_append]; simp; omega, .inl ⟨m, hR8, by omega, by have := HN.out; have := HM.out; omega, by rw [List.length_append]; simp; omega, HI93.out⟩⟩
               case measure => rw [hR8.m0, HM0.out]; omega
             | true =>
               have hjl1 : j + 1 < l.length := E.isS_lt hq45
               rw [hq45] at hs45 HI93
               rw [if_pos rfl] at HI93
               clear hq45 hR4 K4 q3 a5 n5
               go_wp2_with fail
               refine hs45.mono ?_
               rintro e x6 ⟨rfl, hb6⟩
               have hR6 := hR5.later hb6
               have K6 := K5.nb K5.size hb6
               have n6 := (hb6.block x4.heap.size (Array.getElem?_eq_some_iff.1 N5.out).1).trans N5.out
               obtain ⟨d0, d1, d2, d3, d4⟩ := cells_five hR6.box
               rw [HE1] at d1
               have g1 := hR6.frz 1
               have hR7 := hR6.put (j + 2)
               have K7 := hR6.kp K6 1 (.int .i64 ((j + 2 : Nat) : Int))
               have HE2 : ((j + 2 : Nat) : Int) = (j : Int) + 1 + 1 := by omega
               have hRx : ¬ x4.heap.size = R := by omega
               have n7 := (Below.heap_setCell x6 ⟨R, 1, none⟩ (.int .i64 ((j + 2 : Nat) : Int)) x4.heap.size hRx).trans n6
               rw [HE2] at hR7 K7 n7
               obtain ⟨x7, hx7⟩ : ∃ x7, x6.setCell ⟨R, 1, none⟩ (.int .i64 ((j : Int) + 1 + 1)) = x7 := ⟨_, rfl⟩
               rw [hx7] at hR7 K7 n7
               have hn7 := nowQ hR7
               have HN7 := hide n7
               obtain ⟨u, hu⟩ : ∃ u, tk l (j + 2) = u := ⟨_, rfl⟩
               rw [hu] at hn7 HI93
               unfold tokV at hn7
               have hf0 := field0 (u.1.kind : Int) (u.2 : Int) u.1.r ⟨u.1.text.toArray⟩
               have hf3 := field3 (u.1.kind : Int) (u.2 : Int) u.1.r ⟨u.1.text.toArray⟩
               clear hs45 hR5 hR6 K5 K6 hb6 n6 n7 c0 c1 c2 c3 c4 b0 b1 b2 b3 y0 y1 y2 y3 f1 hR3 hx3 hx4 hx5 HE1
               go_wp2_with fail
               refine hn7.mono ?_
               rintro e x8 ⟨rfl, hb8⟩
               have hR8 := hR7.later hb8
               have K8 := K7.nb K7.size hb8
               have n8 := (hb8.block x4.heap.size (Array.getElem?_eq_some_iff.1 HN7.out).1).trans HN7.out
               obtain ⟨s0, s1, s2, s3, s4⟩ := cells_five hR8.box
               rw [HE2] at s1
               clear hn7 hR7 K7 hb8 d0 d1 d2 d3 d4 g1 hx7
               by_cases ku : u.1.kind = 4
               · have eu : ((u.1.kind : Int) != 4) = false := by simp [ku]
                 rw [if_pos ku] at HI93
                 have hjl2 : j + 2 < l.length := E.tk_lt (by rw [hu]; omega)
                 have hn8 := nowQ hR8
                 rw [hu] at hn8
                 unfold tokV at hn8
                 have N8 := hide n8
                 clear ku n8
                 go_wp2_with fail
                 refine hn8.mono ?_
                 rintro e x9 ⟨rfl, hb9⟩
                 have hR9 := hR8.later hb9
                 have K9 := K8.nb K8.size hb9
                 have n9 := (hb9.block x4.heap.size (Array.getElem?_eq_some_iff.1 N8.out).1).trans N8.out
                 obtain ⟨z0, z1⟩ := cells_2q n9
                 have gz := frozen_row n9 1
                 have hlt4 : wr.heap.size ≤ x4.heap.size := hz4
                 have K10 := K9.set (p := ⟨x4.heap.size, 1, none⟩) (.inr hlt4) (.int .i32 u.1.r)
                 have hR10 := hR9.but (W := x9.setCell ⟨x4.heap.size, 1, none⟩ (.int .i32 u.1.r)) (x := x4.heap.size) (fun k _ hk => Below.heap_setCell _ _ _ _ hk) (by omega)
                 have n10 : (x9.setCell ⟨x4.heap.size, 1, none⟩ (.int .i32 u.1.r)).heap[x4.heap.size]? = some (.cells #[.int .i32 t.1.r, .int .i32 u.1.r] 51) := by simp [World.setCell, Array.getElem?_modify, n9]
                 obtain ⟨x10, hx10⟩ : ∃ x10, x9.setCell ⟨x4.heap.size, 1, none⟩ (.int .i32 u.1.r) = x10 := ⟨_, rfl⟩
                 rw [hx10] at K10 hR10 n10
                 obtain ⟨d0, d1, d2, d3, d4⟩ := cells_five hR10.box
                 rw [HE2] at d1
                 have g1 := hR10.frz 1
                 have hR11 := hR10.put (j + 3)
                 have K11 := hR10.kp K10 1 (.int .i64 ((j + 3 : Nat) : Int))
                 have HE3 : ((j + 3 : Nat) : Int) = (j : Int) + 1 + 1 + 1 := by omega
                 have n11 := (Below.heap_setCell x10 ⟨R, 1, none⟩ (.int .i64 ((j + 3 : Nat) : Int)) x4.heap.size hRx).trans n10
                 rw [HE3] at hR11 K11 n11
                 obtain ⟨x11, hx11⟩ : ∃ x11, x10.setCell ⟨R, 1, none⟩ (.int .i64 ((j : Int) + 1 + 1 + 1)) = x11 := ⟨_, rfl⟩
                 rw [hx11] at hR11 K11 n11
                 obtain ⟨v0, v1⟩ := cells_2q n11
                 clear hn8 hR8 K8 hb9 hR9 K9 n9 K10 hR10 n10 n11 HE3
                 by_cases hle : t.1.r ≤ u.1.r
                 · have el : decide (u.1.r < t.1.r) = false := decide_eq_false (by omega)
                   rw [if_pos hle] at HI93
                   have hr12 := new_rowQ (w := x11) (x := t.1.r) (y := u.1.r)
                   have a12 := al1 x11 (.cells #[.int .i32 t.1.r, .int .i32 u.1.r] 51)
                   obtain ⟨x12, hx12⟩ : ∃ x12, x11.alloc (.cells #[.int .i32 t.1.r, .int .i32 u.1.r] 51) = x12 := ⟨_, rfl⟩
                   rw [hx12] at hr12 a12
                   have HR12 := hide (hR11.later a12)
                   have K12 := K11.nb K11.size a12
                   have hown12 := OWN.out x12 K12
                   have hK12 := HNXX.out x12 K12
                   have hz12 := K12.size
                   clear hle hR11 K11 a12
                   go_wp2_with (refine U.wpl_appR (T := 23) (e := 51) rfl info51k rfl _ _ rfl w.heap.size _ acc (some ⟨x11.heap.size, 0, none⟩) [(t.1.r, u.1.r)] _ 1 rfl rfl rfl hown12 (by omega) hr12 (fun e => by cases e) (by simp; omega) ?_; intro v13 x13 hown13 hb13 hg13)
                   have hR13 := HR12.out.below hb13 (by omega)
                   have hK13 := hK12.trans (Kp.of hb13)
                   go_roundw
                   case rel => exact ⟨j + 3, acc ++ [(t.1.r, u.1.r)], hown13, hK13, by rw [List.length_append]; simp; omega, .inl ⟨m, hR13, by omega, by have := HN.out; have := HM.out; omega, by rw [List.length_append]; simp; omega, HI93.out⟩⟩
                   case measure => rw [hR13.m0, HM0.out]; omega
                 · have el : decide (u.1.r < t.1.r) = true := decide_eq_true (by omega)
                   rw [if_neg hle] at HI93
                   have hfl := failQ 30 j hR11
                   obtain ⟨h12, K12⟩ := hR11.failed K11 30 j
                   have m12 := (Below.heap_setCell (x11.setCell ⟨R, 3, none⟩ (.int .i64 ((30 : Nat) : Int))) ⟨R, 4, none⟩ (.int .i64 (j : Int)) x4.heap.size hRx).trans (Below.heap_setCell x11 ⟨R, 3, none⟩ (.int .i64 ((30 : Nat) : Int)) x4.heap.size hRx)
                   have V0 := hide v0
                   have V1 := hide v1
                   clear hle
                   go_wp2_with fail
                   refine hfl.mono ?_
                   rintro e x12 ⟨⟨vv, rfl⟩, hx12⟩
                   rw [← hx12] at h12 K12 m12
                   have v0' : x12.cell? ⟨x4.heap.size, 0, none⟩ = some (.int .i32 t.1.r) := (World.cell?_of_block (w := x11) (a := ⟨x4.heap.size, 0, none⟩) m12).trans V0.out
                   have v1' : x12.cell? ⟨x4.heap.size, 1, none⟩ = some (.int .i32 u.1.r) := (World.cell?_of_block (w := x11) (a := ⟨x4.heap.size, 1, none⟩) m12).trans V1.out
                   have hr13 := new_rowQ (w := x12) (x := t.1.r) (y := u.1.r)
                   have a13 := al1 x12 (.cells #[.int .i32 t.1.r, .int .i32 u.1.r] 51)
                   obtain ⟨x13, hx13⟩ : ∃ x13, x12.alloc (.cells #[.int .i32 t.1.r, .int .i32 u.1.r] 51) = x13 := ⟨_, rfl⟩
                   rw [hx13] at hr13 a13
                   have HR13 := hide (h12.later a13)
                   have K13 := K12.nb K12.size a13
                   have hown13 := OWN.out x13 K13
                   have hK13 := HNXX.out x13 K13
                   have hz13 := K13.size
                   clear hfl hR11 K11 h12 K12 m12 a13 v0 v1 hx12
                   go_wp2_with (refine U.wpl_appR (T := 23) (e := 51) rfl info51k rfl _ _ rfl w.heap.size _ acc (some ⟨x12.heap.size, 0, none⟩) [(t.1.r, u.1.r)] _ 1 rfl rfl rfl hown13 (by omega) hr13 (fun e => by cases e) (by simp; omega) ?_; intro v14 x14 hown14 hb14 hg14)
                   have hR14 := HR13.out.below hb14 (by omega)
                   have hK14 := hK13.trans (Kp.of hb14)
                   go_roundw
                   case rel => exact ⟨j + 3, acc ++ [(t.1.r, u.1.r)], hown14, hK14, by rw [List.length_append]; simp; omega, .inr ⟨30, j, by decide, hR14, HI93.out⟩⟩
                   case measure => rw [hR14.m1 (by decide), HM0.out]; omega
               · have eu : ((u.1.kind : Int) != 4) = true := by simp; omega
                 rw [if_neg ku] at HI93
                 have HO : Hid (r = .error (70, j + 2)) := hide (by rw [HIa.out, HI93.out])
                 have hfl := failQ 70 (j + 2) hR8
                 rw [HE2] at hfl
                 obtain ⟨h9, K9⟩ := hR8.failed K8 70 (j + 2)
                 rw [HE2] at h9 K9
                 have H9 := hide h9
                 have HK9 := hide (HNXX.out _ K9)
                 clear h9 K9 ku
                 go_wp2_with fail
                 refine hfl.mono ?_
                 rintro e x9 ⟨⟨v, rfl⟩, rfl⟩
                 go_wp2
                 go_ret
                 exact ⟨HK9.out, .inr ⟨70, j + 2, _, _, _, _, HO.out, by decide, rfl, H9.out⟩⟩
           · have e4 : ((t.1.kind : Int) == 4) = false := by simp; omega
             rw [HIT.out, if_neg k4, if_neg k5] at HI93
             have hfl := failQ 70 j hR3
             obtain ⟨h4, K4⟩ := hR3.failed K3 70 j
             have hown4 := OWN.out _ K4
             have hK4 := HNXX.out _ K4
             have H4 := hide h4
             have HO4 := hide hown4
             have HK4 := hide hK4
             clear h4 K4 hown4 hK4
             go_wp2_with fail
             refine hfl.mono ?_
             rintro e x4 ⟨⟨v, rfl⟩, hx4⟩
             rw [← hx4] at H4 HO4 HK4
             clear hx4 hfl
             go_wp2
             go_roundw
             case rel => exact ⟨j, acc, HO4.out, HK4.out, hal, .inr ⟨70, j, by decide, H4.out, HI93.out⟩⟩
             case measure => rw [H4.out.m1 (by decide), HM0.out]; omega
     · have HO : Hid (r = .error (c, k)) := hide (by rw [HIa.out, HT])
       have e1 : ((c : Int) == 0) = false := by simp; omega
       have e2 : ((c : Int) != 0) = true := by simp; omega
       obtain ⟨c0, c1, c2, c3, c4⟩ := cells_five hR.box
       have HK := hide hk
       have H3 := hide hR
       have HC := hide hc
       clear hc HT h4 hk4 hk hR
       go_wp2
       go_ret
       exact ⟨HK.out, .inr ⟨c, k, j, _, _, _, HO.out, HC.out, rfl, H3.out⟩⟩
end Go.Proofs.YtamhjnemmdcniaaGreatDoor
