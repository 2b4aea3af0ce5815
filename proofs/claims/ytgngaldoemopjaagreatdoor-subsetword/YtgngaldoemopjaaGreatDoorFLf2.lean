/- Joined: Rga Lf1 Lf2. -/
import Derived.Test.YtgngaldoemopjaaGreatDoorFJD
import Derived.Test.YtgngaldoemopjaaGreatDoorFPla
import Derived.Test.YtgngaldoemopjaaGreatDoorFPsp
namespace Go.Proofs.YtgngaldoemopjaaGreatDoor
open Go.RowKit
theorem Reg.onlyS {P : Program} {ops : Array Oper} {Q : Exit → Act → World → Prop} {a : Act} {B fuel : Nat} {ks : List Nat} {l : List (Nat × Value)} {w : World} (i : Nat) (o : Oper) (hi : ops[i]? = some o) (hr : Region.ready .any ops (Reg.lst ops.size ks) = [i]) (hd : o.dst = none) (hb : Reg.inB a l = true) (hw : Reg.wantB ops a l o = true)
   (h : ∃ w' B', (execOp (Reg.ev a l) o).run P w = .ok .skip w' ∧ B ≤ B' ∧ Below B w w' ∧ Reg.G P ops Q a B' fuel (i :: ks) l w') : Reg.G P ops Q a B (fuel + 1) ks l w := by
 obtain ⟨w', B', hrun, hBB, hbl, hg⟩ := h
 refine wpAnyH_all hr (by simp) fun j hj => ?_
 obtain rfl : j = i := by simpa using hj
 unfold wpOp
 simp only [hi]
 rw [if_pos (Reg.wanted_of ops a l o hb hw)]
 refine .inl ?_
 unfold Oper.wp
 rw [Reg.ov_eval a l hb, hrun]
 simp only [Oper.upon, hd]
 exact ⟨hbl, Reg.mono_held (fun x hx => hbl.trans (hx.mono hBB)) _ _ _ _ hg⟩
theorem Reg.ldS {P : Program} {w : World} {ρ : Operand → Value} {o : Oper} {ty : TypeId} {x : Operand} {a : Addr} {v : Value} (hop : o.op = .load ty x) (hx : ρ x = .pointer (some a)) (hc : w.cell? a = some v) (hagg : (isAgg ty).run P w = .ok false w) : (execOp ρ o).run P w = .ok (.value v) w := by
 obtain ⟨dst, op, type, pos, after, guard⟩ := o
 simp only at hop
 subst hop
 simp [execOp, hx, Instr.loadAt, Instr.sureAddr, loadVar, Sem.run_bind, hc, hagg, Result.andThen, go_sem]
def putT (w : World) (b : Nat) (a c : Int) (s : ByteArray) (r : Int) : World := (((w.setCell ⟨b, 0, none⟩ (.int .i64 a)).setCell ⟨b, 1, none⟩ (.int .i64 c)).setCell ⟨b, 2, none⟩ (.string s)).setCell ⟨b, 3, none⟩ (.int .i32 r)
theorem Reg.stT {w : World} {ρ : Operand → Value} {o : Oper} {x y : Operand} {b : Nat} {a c r : Int} {s : ByteArray} {u0 u1 u2 u3 : Value} (hop : o.op = .store 111 x y) (hx : ρ x = .pointer (some ⟨b, 0, none⟩)) (hy : ρ y = .agg #[.int .i64 a, .int .i64 c, .string s, .int .i32 r]) (h : w.heap[b]? = some (.cells #[u0, u1, u2, u3] 111)) : (execOp ρ o).run Tryz.prog w = .ok .skip (putT w b a c s r) := by
 obtain ⟨dst, op, type, pos, after, guard⟩ := o
 simp only at hop
 subst hop
 have hc : ∀ j, j < 4 → ∃ u, w.cell? ⟨b, j, none⟩ = some u ∧ w.frozen? ⟨b, j, none⟩ = false := by
   intro j hj
   match j, hj with
   | 0, _ => exact ⟨u0, by simp [World.cell?, h], by simp [World.frozen?, h]⟩
   | 1, _ => exact ⟨u1, by simp [World.cell?, h], by simp [World.frozen?, h]⟩
   | 2, _ => exact ⟨u2, by simp [World.cell?, h], by simp [World.frozen?, h]⟩
   | 3, _ => exact ⟨u3, by simp [World.cell?, h], by simp [World.frozen?, h]⟩
 obtain ⟨v0, c0, f0⟩ := hc 0 (by omega)
 obtain ⟨v1, c1, f1⟩ := hc 1 (by omega)
 obtain ⟨v2, c2, f2⟩ := hc 2 (by omega)
 obtain ⟨v3, c3, f3⟩ := hc 3 (by omega)
 have hsz := Tryz.sizeOf111 w
 simp [execOp, hx, hy, Instr.storeAt, Instr.sureAddr, storeVar, Sem.run_bind, hsz, Result.andThen, go_sem, c0, c1, c2, c3, f0, f1, f2, f3]
 rfl
theorem putT_box {w : World} {b : Nat} {a c r : Int} {s : ByteArray} {u0 u1 u2 u3 : Value} (h : w.heap[b]? = some (.cells #[u0, u1, u2, u3] 111)) : (putT w b a c s r).heap[b]? = some (.cells #[.int .i64 a, .int .i64 c, .string s, .int .i32 r] 111) := by
 simp [putT, World.setCell, Array.getElem?_modify, h]
theorem putT_below {n : Nat} {w0 w : World} {b : Nat} {a c r : Int} {s : ByteArray} (h : Below n w0 w) (hb : n ≤ b) : Below n w0 (putT w b a c s r) :=
 ((((h.setCell (p := ⟨b, 0, none⟩) hb _).setCell (p := ⟨b, 1, none⟩) hb _).setCell (p := ⟨b, 2, none⟩) hb _).setCell (p := ⟨b, 3, none⟩) hb _)
def putN (w : World) (b : Nat) (v0 v1 v2 v3 v4 : Value) : World := ((((w.setCell ⟨b, 0, none⟩ v0).setCell ⟨b, 1, none⟩ v1).setCell ⟨b, 2, none⟩ v2).setCell ⟨b, 3, none⟩ v3).setCell ⟨b, 4, none⟩ v4
theorem putN_box {w : World} {b : Nat} {v0 v1 v2 v3 v4 u0 u1 u2 u3 u4 : Value} {t : TypeId} (h : w.heap[b]? = some (.cells #[u0, u1, u2, u3, u4] t)) : (putN w b v0 v1 v2 v3 v4).heap[b]? = some (.cells #[v0, v1, v2, v3, v4] t) := by
 simp [putN, World.setCell, Array.getElem?_modify, h]
theorem putN_other {w : World} {b k : Nat} {v0 v1 v2 v3 v4 : Value} (h : k ≠ b) : (putN w b v0 v1 v2 v3 v4).heap[k]? = w.heap[k]? := by
 unfold putN
 rw [Below.heap_setCell _ _ _ _ h, Below.heap_setCell _ _ _ _ h, Below.heap_setCell _ _ _ _ h, Below.heap_setCell _ _ _ _ h, Below.heap_setCell _ _ _ _ h]
theorem putN_size (w : World) (b : Nat) (v0 v1 v2 v3 v4 : Value) : (putN w b v0 v1 v2 v3 v4).heap.size = w.heap.size := by simp [putN, World.setCell]
theorem putN_below {n : Nat} {w0 w : World} {b : Nat} {v0 v1 v2 v3 v4 : Value} (h : Below n w0 w) (hb : n ≤ b) : Below n w0 (putN w b v0 v1 v2 v3 v4) :=
 (((((h.setCell (p := ⟨b, 0, none⟩) hb _).setCell (p := ⟨b, 1, none⟩) hb _).setCell (p := ⟨b, 2, none⟩) hb _).setCell (p := ⟨b, 3, none⟩) hb _).setCell (p := ⟨b, 4, none⟩) hb _)
theorem putN_kp {n x : Nat} {w0 w : World} {b : Nat} {v0 v1 v2 v3 v4 : Value} (h : Kp n x w0 w) (hb : n ≤ b) : Kp n x w0 (putN w b v0 v1 v2 v3 v4) :=
 (((((h.set (p := ⟨b, 0, none⟩) (.inr hb) _).set (p := ⟨b, 1, none⟩) (.inr hb) _).set (p := ⟨b, 2, none⟩) (.inr hb) _).set (p := ⟨b, 3, none⟩) (.inr hb) _).set (p := ⟨b, 4, none⟩) (.inr hb) _)
theorem cells_five {W : World} {k : Nat} {u v x y z : Value} {t : TypeId} (h : W.heap[k]? = some (.cells #[u, v, x, y, z] t)) : W.cell? ⟨k, 0, none⟩ = some u ∧ W.cell? ⟨k, 1, none⟩ = some v ∧ W.cell? ⟨k, 2, none⟩ = some x ∧ W.cell? ⟨k, 3, none⟩ = some y ∧ W.cell? ⟨k, 4, none⟩ = some z := by
 simp [World.cell?, h]
theorem Reg.stN {w : World} {ρ : Operand → Value} {o : Oper} {x y : Operand} {b : Nat} {a c : Int} {s : ByteArray} {sp kp : Option Addr} {sl sc kl kc : Nat} {u0 u1 u2 u3 u4 : Value} (hop : o.op = .store 25 x y) (hx : ρ x = .pointer (some ⟨b, 0, none⟩)) (hy : ρ y = .agg #[.int .i64 a, .int .i64 c, .slice sp sl sc, .string s, .slice kp kl kc]) (h : w.heap[b]? = some (.cells #[u0, u1, u2, u3, u4] 25)) : (execOp ρ o).run Tryz.prog w = .ok .skip (putN w b (.int .i64 a) (.int .i64 c) (.slice sp sl sc) (.string s) (.slice kp kl kc)) := by
 obtain ⟨dst, op, type, pos, after, guard⟩ := o
 simp only at hop
 subst hop
 obtain ⟨c0, c1, c2, c3, c4⟩ := cells_five h
 have f : ∀ j, w.frozen? ⟨b, j, none⟩ = false := fun j => by simp [World.frozen?, h]
 have hsz := Tryz.sizeOf25 w
 simp [execOp, hx, hy, Instr.storeAt, Instr.sureAddr, storeVar, Sem.run_bind, hsz, Result.andThen, go_sem, c0, c1, c2, c3, c4, f]
 rfl
theorem Rdr.putN {w : World} {R x : Nat} {ao : Option Addr} {cap : Nat} {l : List (X.Tk × Nat)} {i o : Nat} (h : Rdr w R ao cap l i o) (hx : R < x) (v0 v1 v2 v3 v4 : Value) : Rdr (putN w x v0 v1 v2 v3 v4) R ao cap l i o :=
 h.but (fun _ _ hk => putN_other hk) hx
end Go.Proofs.YtgngaldoemopjaaGreatDoor
namespace Go.Proofs.YtgngaldoemopjaaGreatDoor
open Go.RowKit
open E (T tk isS rpt beg)
theorem elemSize106k (w : World) : (sizeOf (Tryz.prog.elem 106)).run Tryz.prog w = .ok 4 w := by kernel_rfl
theorem tk_in {l : List E.Tok} {i : Nat} (h : i < l.length) : tk l i = l[i] := by rw [E.tk, List.getD_eq_getElem?_getD, List.getElem?_eq_getElem h]; rfl
theorem tk_out {l : List E.Tok} {i : Nat} (h : l.length ≤ i) : tk l i = E.tzz := by rw [E.tk, List.getD_eq_getElem?_getD, List.getElem?_eq_none h]; rfl
set_option maxHeartbeats 1000000 in
theorem signAt_any (ao : Option Addr) (cap : Nat) (l : List E.Tok) (i : Nat) (w : World) (hr : RdK w ao l) :
   Calls Tryz.prog 48 #[.slice ao l.length cap, .int .i64 (i : Int)] w fun e w' => e = .returned (tokV (tk l i).1 (tk l i).2) ∧ Below w.heap.size w w' := by
 by_cases h : i < l.length
 · obtain ⟨b, off, rfl, c0, c1, c2, c3⟩ := hr i h
   rw [tk_in h]
   have hix := elemSize106k
   have hlt : b < w.heap.size := U.cell_lt c0
   obtain ⟨t, ht⟩ : ∃ t, l[i] = t := ⟨_, rfl⟩
   rw [ht] at c0 c1 c2 c3 ⊢
   clear ht hr
   have e1 : decide ((i : Int) < 0) = false := by simp
   have e2 : decide ((l.length : Int) ≤ (i : Int)) = false := by simp; omega
   go_enter Tryz.func48, Tryz.ntmps48
   go_wp2
   exact bodyPost_ret (v := tokV t.1 t.2) (by unfold tokV; simp [results, Tryz.results48, go_sem]) rfl ⟨rfl, al1 w _⟩
 · rw [tk_out (by omega)]
   have e1 : decide ((i : Int) < 0) = false := by simp
   have e2 : decide ((l.length : Int) ≤ (i : Int)) = true := by simp; omega
   go_enter Tryz.func48, Tryz.ntmps48
   go_wp2
   exact bodyPost_ret (v := tokV tz 0) (by unfold tokV; simp [results, Tryz.results48, go_sem, tz]) rfl ⟨rfl, al1 w _⟩
set_option maxHeartbeats 1000000 in
theorem isSign_any (t : E.Tok) (c : List UInt8) (w : World) : Calls Tryz.prog 150 #[tokV t.1 t.2, .string ⟨c.toArray⟩] w fun e w' => e = .returned (.bool (isS t c)) ∧ Below w.heap.size w w' := by
 unfold tokV E.isS
 have hq : ((⟨t.1.text.toArray⟩ : ByteArray).toList == (⟨c.toArray⟩ : ByteArray).toList) = (t.1.text == c) := by
   rw [ByteArray.toList_eq, ByteArray.toList_eq]
 by_cases hk : t.1.kind = 6
 · have e1 : ((t.1.kind : Int) == 6) = true := by simp [hk]
   rw [decide_eq_true hk, Bool.true_and]
   clear hk hq
   go_enter Tryz.func150, Tryz.ntmps150
   go_wp2
   go_ret
   exact ⟨rfl, al1 w _⟩
 · have e1 : ((t.1.kind : Int) == 6) = false := by simp; omega
   rw [decide_eq_false hk, Bool.false_and]
   clear hk hq
   go_enter Tryz.func150, Tryz.ntmps150
   go_wp2
   go_ret
   exact ⟨rfl, al1 w _⟩
set_option maxRecDepth 100000 in
set_option maxHeartbeats 1000000 in
theorem next_any {w : World} {R : Nat} {ao : Option Addr} {cap : Nat} {l : List E.Tok} {i o : Nat} (h : Rdr w R ao cap l i o) :
   Calls Tryz.prog 149 #[.pointer (some ⟨R, 0, none⟩)] w fun e w' => e = .returned (tokV (tk l i).1 (tk l i).2) ∧ Below w.heap.size w w' := by
 have h1 := h.later (al1 w (.cells #[.int .i64 0, .int .i64 0, .string ⟨#[]⟩, .int .i32 0] 111))
 obtain ⟨W, hW⟩ : ∃ W, w.alloc (.cells #[.int .i64 0, .int .i64 0, .string ⟨#[]⟩, .int .i32 0] 111) = W := ⟨_, rfl⟩
 have hbx : W.heap[w.heap.size]? = some (.cells #[.int .i64 0, .int .i64 0, .string ⟨#[]⟩, .int .i32 0] 111) := by rw [← hW]; exact heap_alloc_new w _
 have hbw : Below w.heap.size w W := by rw [← hW]; exact al1 w _
 have hsz : W.heap.size = w.heap.size + 1 := by rw [← hW]; simp
 rw [hW] at h1
 have hc := signAt_any ao cap l i W.drew h1.rd
 obtain ⟨c0, c1, c2⟩ := h1.cells
 generalize tk l i = t at *
 have HZ := hide hsz
 clear hsz
 go_enter Tryz.func149, Tryz.ntmps149
 go_wp2_with fail
 refine Reg.start (B := w.heap.size) (by kernel_rfl) ?_
 refine Reg.take (fun _ _ _ _ _ h => h) 0 _ 3 (.pointer (some ⟨R, 0, none⟩)) rfl (by kernel_rfl) (by kernel_rfl) (by kernel_rfl) rfl (by kernel_rfl) (by kernel_rfl) (fun wx hb => by kernel_rfl) ?_
 refine Reg.take (fun _ _ _ _ _ h => h) 1 _ 4 (.pointer (some ⟨R, 0, none⟩)) rfl (by kernel_rfl) (by kernel_rfl) (by kernel_rfl) rfl (by kernel_rfl) (by kernel_rfl) (fun wx hb => by kernel_rfl) ?_
 refine Reg.take (fun _ _ _ _ _ h => h) 2 _ 5 (.pointer (some ⟨R, 0, none⟩)) rfl (by kernel_rfl) (by kernel_rfl) (by kernel_rfl) rfl (by kernel_rfl) (by kernel_rfl) (fun wx hb => by kernel_rfl) ?_
 refine Reg.take (fun _ _ _ _ _ h => h) 3 _ 6 (.slice ao l.length cap) rfl (by kernel_rfl) (by kernel_rfl) (by kernel_rfl) rfl (by kernel_rfl) (by kernel_rfl) (fun wx hb => Reg.ldS rfl (by kernel_rfl) ((hb.cell h.lt).trans c0) (Tryz.isAgg106 _)) ?_
 refine Reg.take (fun _ _ _ _ _ h => h) 4 _ 7 (.pointer (some ⟨R, 0, none⟩)) rfl (by kernel_rfl) (by kernel_rfl) (by kernel_rfl) rfl (by kernel_rfl) (by kernel_rfl) (fun wx hb => by kernel_rfl) ?_
 refine Reg.take (fun _ _ _ _ _ h => h) 5 _ 8 (.pointer (some ⟨R, 0, none⟩)) rfl (by kernel_rfl) (by kernel_rfl) (by kernel_rfl) rfl (by kernel_rfl) (by kernel_rfl) (fun wx hb => by kernel_rfl) ?_
 refine Reg.take (fun _ _ _ _ _ h => h) 6 _ 9 (.pointer (some ⟨R, 1, none⟩)) rfl (by kernel_rfl) (by kernel_rfl) (by kernel_rfl) rfl (by kernel_rfl) (by kernel_rfl) (fun wx hb => by kernel_rfl) ?_
 refine Reg.take (fun _ _ _ _ _ h => h) 7 _ 10 (.int .i64 (i : Int)) rfl (by kernel_rfl) (by kernel_rfl) (by kernel_rfl) rfl (by kernel_rfl) (by kernel_rfl) (fun wx hb => Reg.ldS rfl (by kernel_rfl) ((hb.cell h.lt).trans c1) (Tryz.isAgg3 _)) ?_
 refine Reg.call 8 _ 11 48 _ _ #[.slice ao l.length cap, .int .i64 (i : Int)] rfl (by kernel_rfl) rfl (by kernel_rfl) (by kernel_rfl) rfl (by kernel_rfl) (by kernel_rfl) hc ?_
 rintro e w2 ⟨rfl, hb2⟩
 have hb3 : Below w.heap.size w w2 := hbw.drew.trans (hb2.mono hbw.size)
 have hbx2 := (hb2.block w.heap.size (by have := HZ.out; simp; omega)).trans hbx
 refine ⟨_, w.heap.size, rfl, Nat.le_refl _, hb2.mono hbw.size, ?_⟩
 refine Reg.onlyS 9 _ rfl (by kernel_rfl) rfl (by kernel_rfl) (by kernel_rfl) ⟨_, w.heap.size, Reg.stT rfl rfl rfl hbx2, Nat.le_refl _, putT_below (Below.refl _ _) (Nat.le_refl _), ?_⟩
 refine Reg.done (by kernel_rfl) ?_
 simp only [Reg.ov, Act.put, List.setIfInBounds_toArray, List.set_cons_succ, List.set_cons_zero]
 obtain ⟨d0, d1, d2, d3⟩ := cells_four (putT_box (a := (t.1.kind : Int)) (c := (t.2 : Int)) (s := ⟨t.1.text.toArray⟩) (r := t.1.r) hbx2)
 go_wp2
 exact bodyPost_ret (v := tokV t.1 t.2) (by unfold tokV; simp [results, Tryz.results149, go_sem, d0, d1, d2, d3]) rfl ⟨rfl, putT_below hb3 (Nat.le_refl _)⟩
end Go.Proofs.YtgngaldoemopjaaGreatDoor
namespace Go.Proofs.YtgngaldoemopjaaGreatDoor
open Go.RowKit
open E (T tk isS rpt beg)
structure ND where
 k : Int
 a : Int
 sp : Option Addr
 sl : Nat
 sc : Nat
 n : ByteArray
 kp : Option Addr
 kl : Nat
 kc : Nat
def ND.v (d : ND) : Value := .agg #[.int .i64 d.k, .int .i64 d.a, .slice d.sp d.sl d.sc, .string d.n, .slice d.kp d.kl d.kc]
def ND.cs (d : ND) : List Value := [.int .i64 d.k, .int .i64 d.a, .slice d.sp d.sl d.sc, .string d.n, .slice d.kp d.kl d.kc]
theorem TR.nd {w : World} {ok : Nat → Prop} : ∀ {t : T} {v : Value}, TR w ok t v → ∃ d : ND, v = d.v ∧ d.k = t.kind ∧ d.a = t.at_
 | .mk k a s n ks, v, h => by
   rw [TR] at h
   obtain ⟨sp, sc, kp, kc, e, _⟩ := h
   exact ⟨⟨k, a, sp, s.length, sc, ⟨n.toArray⟩, kp, ks.length, kc⟩, e, rfl, rfl⟩
set_option maxHeartbeats 1000000 in
theorem take_any {w : World} {R : Nat} {ao : Option Addr} {cap : Nat} {l : List E.Tok} {i o : Nat} (h : Rdr w R ao cap l i o) (hl : l.length ≤ 1000000) (c : List UInt8) :
   Calls Tryz.prog 112 #[.pointer (some ⟨R, 0, none⟩), .string ⟨c.toArray⟩] w fun e w' => e = .returned (.bool (isS (tk l i) c)) ∧ Rdr w' R ao cap l (if isS (tk l i) c = true then i + 1 else i) o ∧ Kp w.heap.size R w w' := by
 have hn := next_any h
 have HS := fun W => isSign_any (tk l i) c W
 have hlt : isS (tk l i) c = true → i < l.length := E.isS_lt
 generalize tk l i = t at *
 cases hb : isS t c with
 | true =>
   have hi := hlt hb
   rw [hb] at HS
   clear hb hlt
   go_enter Tryz.func112, Tryz.ntmps112
   go_wp2_with fail
   refine hn.mono ?_
   rintro e w1 ⟨rfl, hb1⟩
   go_wp2_with fail
   refine (HS _).mono ?_
   rintro e w2 ⟨rfl, hb2⟩
   have hB := nx hb1 hb2
   have h2 := h.later hB
   obtain ⟨c0, c1, c2⟩ := h2.cells
   have f1 := h2.frz 1
   go_wp2
   go_ret
   exact ⟨rfl, h2.put (i + 1), (Kp.of hB).set (p := ⟨R, 1, none⟩) (.inl rfl) _⟩
 | false =>
   rw [hb] at HS
   clear hb hlt
   go_enter Tryz.func112, Tryz.ntmps112
   go_wp2_with fail
   refine hn.mono ?_
   rintro e w1 ⟨rfl, hb1⟩
   go_wp2_with fail
   refine (HS _).mono ?_
   rintro e w2 ⟨rfl, hb2⟩
   have hB := nx hb1 hb2
   have h2 := h.later hB
   go_wp2
   go_ret
   exact ⟨rfl, h2, Kp.of hB⟩
set_option maxHeartbeats 1000000 in
theorem repeating_any (t : E.Tok) (w : World) : Calls Tryz.prog 177 #[tokV t.1 t.2] w fun e w' => e = .returned (.int .i64 (rpt t : Int)) ∧ Below w.heap.size w w' := by
 have H1 := fun W => isSign_any t [42] W
 have H2 := fun W => isSign_any t [43] W
 have H3 := fun W => isSign_any t [63] W
 unfold rpt
 unfold tokV at H1 H2 H3 ⊢
 cases h1 : isS t [42] with
 | true =>
   rw [h1] at H1
   clear h1 H2 H3
   go_enter Tryz.func177, Tryz.ntmps177
   go_wp2_with fail
   refine (H1 _).mono ?_
   rintro e w1 ⟨rfl, hb1⟩
   have hB := nx (al1 w _) hb1
   go_wp2
   go_ret
   exact ⟨rfl, hB⟩
 | false =>
   rw [h1] at H1
   clear h1
   cases h2 : isS t [43] with
   | true =>
     rw [h2] at H2
     clear h2 H3
     go_enter Tryz.func177, Tryz.ntmps177
     go_wp2_with fail
     refine (H1 _).mono ?_
     rintro e w1 ⟨rfl, hb1⟩
     have hB := nx (al1 w _) hb1
     obtain ⟨d0, d1, d2, d3⟩ := cells_four ((hb1.block w.heap.size (by simp)).trans (heap_alloc_new w _))
     go_wp2_with fail
     refine (H2 _).mono ?_
     rintro e w2 ⟨rfl, hb2⟩
     have hB2 := nx hB hb2
     go_wp2
     go_ret
     exact ⟨rfl, hB2⟩
   | false =>
     rw [h2] at H2
     clear h2
     have H3' : ∀ W, Calls Tryz.prog 150 _ W fun e w' => e = .returned (.bool (isS t [63])) ∧ Below W.heap.size W w' := H3
     go_enter Tryz.func177, Tryz.ntmps177
     go_wp2_with fail
     refine (H1 _).mono ?_
     rintro e w1 ⟨rfl, hb1⟩
     have hB := nx (al1 w _) hb1
     have hbx := (hb1.block w.heap.size (by simp)).trans (heap_alloc_new w _)
     obtain ⟨d0, d1, d2, d3⟩ := cells_four hbx
     go_wp2_with fail
     refine (H2 _).mono ?_
     rintro e w2 ⟨rfl, hb2⟩
     have hB2 := nx hB hb2
     obtain ⟨d0', d1', d2', d3'⟩ := cells_four ((hb2.block w.heap.size (Array.getElem?_eq_some_iff.1 hbx).1).trans hbx)
     go_wp2_with fail
     refine (H3 _).mono ?_
     rintro e w3 ⟨rfl, hb3⟩
     have hB3 := nx hB2 hb3
     cases h3 : isS t [63] with
     | true =>
       go_wp2
       go_ret
       exact ⟨rfl, hB3⟩
     | false =>
       go_wp2
       go_ret
       exact ⟨rfl, hB3⟩
theorem al3_new (w : World) (o1 o2 o3 : Obj) : (((w.alloc o1).alloc o2).alloc o3).heap[w.heap.size + 1 + 1]? = some o3 := by
 have := heap_alloc_new ((w.alloc o1).alloc o2) o3
 simpa using this
theorem al4_new (w : World) (o1 o2 o3 o4 : Obj) : ((((w.alloc o1).alloc o2).alloc o3).alloc o4).heap[w.heap.size + 1 + 1 + 1]? = some o4 := by
 have := heap_alloc_new (((w.alloc o1).alloc o2).alloc o3) o4
 simpa using this
set_option maxHeartbeats 1000000 in
theorem twoOf_any (k : Int) (d1 d2 : ND) (w : World) : Calls Tryz.prog 113 #[.int .i64 k, d1.v, d2.v] w fun e w' =>
   ∃ b, w.heap.size ≤ b ∧ e = .returned (.agg #[.int .i64 k, .int .i64 d1.a, .slice none 0 0, .string ⟨#[]⟩, .slice (some ⟨b, 0, none⟩) 2 2]) ∧ w'.heap[b]? = some (.cells (d1.cs ++ d2.cs).toArray 25) ∧ Below w.heap.size w w' := by
 unfold ND.v ND.cs
 go_enter Tryz.func113, Tryz.ntmps113
 go_wp2
 exact bodyPost_ret (v := .agg #[.int .i64 k, .int .i64 d1.a, .slice none 0 0, .string ⟨#[]⟩, .slice (some ⟨w.heap.size + 1 + 1 + 1, 0, none⟩) 2 2]) (by simp [results, Tryz.results113, go_sem]) rfl ⟨w.heap.size + 1 + 1 + 1, by omega, rfl, by rw [al4_new], nx (nx (nx (al1 w _) (al1 _ _)) (al1 _ _)) (al1 _ _)⟩
set_option maxHeartbeats 1000000 in
theorem oneRange_any (t u : E.Tok) (w : World) : Calls Tryz.prog 191 #[tokV t.1 t.2, tokV u.1 u.2] w fun e w' =>
   ∃ ao, e = .returned (.slice ao 1 1) ∧ U.RdR w' ao [(t.1.r, u.1.r)] ∧ Below w.heap.size w w' := by
 unfold tokV
 go_enter Tryz.func191, Tryz.ntmps191
 go_wp2
 go_ret
 refine ⟨_, rfl, ?_, nx (nx (al1 w _) (al1 _ _)) (al1 _ _)⟩
 intro i hi
 obtain rfl : i = 0 := by simp at hi; omega
 refine ⟨w.heap.size + 1 + 1, 0, rfl, ?_, ?_⟩
 · simp only [World.cell?, al3_new]
   rfl
 · simp only [World.cell?, al3_new]
   rfl
set_option maxHeartbeats 1000000 in
theorem begins_any (t : E.Tok) (w : World) : Calls Tryz.prog 148 #[tokV t.1 t.2] w fun e w' => e = .returned (.bool (beg t)) ∧ Below w.heap.size w w' := by
 have H1 := fun W => isSign_any t [46] W
 have H2 := fun W => isSign_any t [40] W
 have H3 := fun W => isSign_any t [91] W
 unfold beg
 unfold tokV at H1 H2 H3 ⊢
 by_cases k1 : t.1.kind = 1
 · have e1 : ((t.1.kind : Int) == 1) = true := by simp [k1]
   rw [decide_eq_true k1, Bool.true_or]
   clear H1 H2 H3 k1
   go_enter Tryz.func148, Tryz.ntmps148
   go_wp2
   go_ret
   exact ⟨rfl, al1 w _⟩
 have e1 : ((t.1.kind : Int) == 1) = false := by simp; omega
 rw [decide_eq_false k1, Bool.false_or]
 clear k1
 by_cases k4 : t.1.kind = 4
 · have e4 : ((t.1.kind : Int) == 4) = true := by simp [k4]
   rw [decide_eq_true k4, Bool.true_or]
   clear H1 H2 H3 k4
   go_enter Tryz.func148, Tryz.ntmps148
   go_wp2
   go_ret
   exact ⟨rfl, al1 w _⟩
 have e4 : ((t.1.kind : Int) == 4) = false := by simp; omega
 rw [decide_eq_false k4, Bool.false_or]
 clear k4
 by_cases k5 : t.1.kind = 5
 · have e5 : ((t.1.kind : Int) == 5) = true := by simp [k5]
   rw [decide_eq_true k5, Bool.true_or]
   clear H1 H2 H3 k5
   go_enter Tryz.func148, Tryz.ntmps148
   go_wp2
   go_ret
   exact ⟨rfl, al1 w _⟩
 have e5 : ((t.1.kind : Int) == 5) = false := by simp; omega
 rw [decide_eq_false k5, Bool.false_or]
 clear k5
 generalize isS t [46] = b1 at *
 generalize isS t [40] = b2 at *
 generalize isS t [91] = b3 at *
 cases b1 with
 | true =>
   clear H2 H3
   go_enter Tryz.func148, Tryz.ntmps148
   go_wp2_with fail
   refine (H1 _).mono ?_
   rintro e w1 ⟨rfl, hb1⟩
   have hB := nx (al1 w _) hb1
   go_wp2
   go_ret
   exact ⟨rfl, hB⟩
 | false =>
   cases b2 with
   | true =>
     clear H3
     go_enter Tryz.func148, Tryz.ntmps148
     go_wp2_with fail
     refine (H1 _).mono ?_
     rintro e w1 ⟨rfl, hb1⟩
     have hB := nx (al1 w _) hb1
     obtain ⟨d0, d1, d2, d3⟩ := cells_four ((hb1.block w.heap.size (by simp)).trans (heap_alloc_new w _))
     go_wp2_with fail
     refine (H2 _).mono ?_
     rintro e w2 ⟨rfl, hb2⟩
     have hB2 := nx hB hb2
     go_wp2
     go_ret
     exact ⟨rfl, hB2⟩
   | false =>
     go_enter Tryz.func148, Tryz.ntmps148
     go_wp2_with fail
     refine (H1 _).mono ?_
     rintro e w1 ⟨rfl, hb1⟩
     have hB := nx (al1 w _) hb1
     have hbx := (hb1.block w.heap.size (by simp)).trans (heap_alloc_new w _)
     obtain ⟨d0, d1, d2, d3⟩ := cells_four hbx
     go_wp2_with fail
     refine (H2 _).mono ?_
     rintro e w2 ⟨rfl, hb2⟩
     have hB2 := nx hB hb2
     obtain ⟨d0', d1', d2', d3'⟩ := cells_four ((hb2.block w.heap.size (Array.getElem?_eq_some_iff.1 hbx).1).trans hbx)
     go_wp2_with fail
     refine (H3 _).mono ?_
     rintro e w3 ⟨rfl, hb3⟩
     have hB3 := nx hB2 hb3
     go_wp2
     go_ret
     exact ⟨rfl, hB3⟩
theorem field1 (a b r : Int) (s : ByteArray) (w : World) : (Instr.field 111 (.agg #[.int .i64 a, .int .i64 b, .string s, .int .i32 r]) 1).run Tryz.prog w = .ok (.int .i64 b) w := by kernel_rfl
abbrev roomN : Obj := .cells #[.int .i64 0, .int .i64 0, .slice none 0 0, .string ⟨#[]⟩, .slice none 0 0] 25
def zN : Value := .agg #[.int .i64 0, .int .i64 0, .slice none 0 0, .string ⟨#[]⟩, .slice none 0 0]
set_option maxRecDepth 100000 in
set_option maxHeartbeats 1000000 in
theorem single_ok {w : World} {R : Nat} {ao : Option Addr} {cap : Nat} {l : List E.Tok} {i o : Nat} (h : Rdr w R ao cap l i o) (hl : i ≤ 1000000) (sp : Option Addr) (sl sc : Nat) :
   Calls Tryz.prog 189 #[.pointer (some ⟨R, 0, none⟩), .slice sp sl sc, .int .i64 0] w fun e w' => e = .returned (.tuple #[.agg #[.int .i64 1, .int .i64 ((tk l i).2 : Int), .slice sp sl sc, .string ⟨#[]⟩, .slice none 0 0], .int .i64 0]) ∧ Rdr w' R ao cap l (i + 1) o ∧ Kp w.heap.size R w w' := by
 have h1 := h.later (al1 w roomN)
 have hn := next_any h1
 generalize tk l i = t at *
 unfold tokV at hn
 go_enter Tryz.func189, Tryz.ntmps189
 go_wp2_with fail
 refine hn.mono ?_
 rintro e w1 ⟨rfl, hb1⟩
 have h2 := h1.later hb1
 obtain ⟨c0, c1, c2⟩ := h2.cells
 have f1 := h2.frz 1
 obtain ⟨hr0, hbb⟩ := room_kept hb1
 have hR : R ≠ w.heap.size := Nat.ne_of_lt h.lt
 have hR' : w.heap.size ≠ R := fun e => hR e.symm
 have h3 := h2.put (i + 1)
 have k3 := (Kp.of (x := R) hbb).set (p := ⟨R, 1, none⟩) (.inl rfl) (.int .i64 ((i + 1 : Nat) : Int))
 have hr1 := (Below.heap_setCell w1 ⟨R, 1, none⟩ (.int .i64 ((i + 1 : Nat) : Int)) w.heap.size hR').trans hr0
 have HE : ((i + 1 : Nat) : Int) = (i : Int) + 1 := by omega
 rw [HE] at h3 k3 hr1
 obtain ⟨W3, hW3⟩ : ∃ W3, w1.setCell ⟨R, 1, none⟩ (.int .i64 ((i : Int) + 1)) = W3 := ⟨_, rfl⟩
 rw [hW3] at h3 k3 hr1
 clear HE
 obtain ⟨d0, d1, d2, d3, d4⟩ := cells_five hr1
 have g0 := frozen_row hr1 0
 have g1 := frozen_row hr1 1
 have g2 := frozen_row hr1 2
 have g3 := frozen_row hr1 3
 have g4 := frozen_row hr1 4
 have hfl := field1 (t.1.kind : Int) (t.2 : Int) t.1.r ⟨t.1.text.toArray⟩
 go_wp2
 obtain ⟨x0, x1, x2, x3, x4⟩ := cells_five (putN_box (v0 := .int .i64 1) (v1 := .int .i64 (t.2 : Int)) (v2 := .slice sp sl sc) (v3 := .string ⟨#[]⟩) (v4 := .slice none 0 0) hr1)
 exact bodyPost_ret (w := putN W3 w.heap.size _ _ _ _ _) (v := .tuple #[.agg #[.int .i64 1, .int .i64 (t.2 : Int), .slice sp sl sc, .string ⟨#[]⟩, .slice none 0 0], .int .i64 0]) (by simp [results, Tryz.results189, go_sem, x0, x1, x2, x3, x4]) rfl ⟨rfl, h3.putN h.lt _ _ _ _ _, putN_kp k3 (Nat.le_refl _)⟩
end Go.Proofs.YtgngaldoemopjaaGreatDoor
