/- Who is next: the program's walk. -/
import Derived.Test.YtbeihgjonhgfmaaGreatDoorChd
namespace Go.Proofs.YtbeihgjonhgfmaaGreatDoor
open Go.RowKit Go.Shelf Go.Maps
attribute [local go_sem] Oper.semAt_some
namespace C
def AnsN (L : Row) (x : Tx) (e : Ending) : Prop := e = .returned (.tuple #[tx (next L x).1, .bool (next L x).2.1, .int .i64 ((next L x).2.2 : Int)])
/-- The box of the forest and the three results. -/
structure NX (w : World) (a : Nat) (s : ByteArray) (b : Bool) (c : Int) (A : World) : Prop where
  bx : A.heap[w.heap.size]? = some (.cells #[.pointer (some ⟨a, 0, none⟩)] 24)
  r0 : A.heap[w.heap.size + 1]? = some (.cells #[.string s] 9)
  r1 : A.heap[w.heap.size + 1 + 1]? = some (.cells #[.bool b] 4)
  r2 : A.heap[w.heap.size + 1 + 1 + 1]? = some (.cells #[.int .i64 c] 26)
  below : Below w.heap.size w A
section
variable {w : World} {a : Nat} {s : ByteArray} {b : Bool} {c : Int} {A : World}
theorem NX.later (h : NX w a s b c A) {B : World} (hb : Below A.heap.size A B) : NX w a s b c B := by
  have hk : ∀ (i : Nat) (o : Obj), A.heap[i]? = some o → B.heap[i]? = some o := fun i o hi => (hb.block i (Array.getElem?_eq_some_iff.1 hi).1).trans hi
  exact ⟨hk _ _ h.bx, hk _ _ h.r0, hk _ _ h.r1, hk _ _ h.r2, nx h.below hb⟩
theorem NX.lt (h : NX w a s b c A) : w.heap.size + 1 + 1 + 1 < A.heap.size := (Array.getElem?_eq_some_iff.1 h.r2).1
def st3 (w A : World) (s : ByteArray) (b : Bool) (c : Int) : World := ((A.setCell ⟨w.heap.size + 1, 0, none⟩ (.string s)).setCell ⟨w.heap.size + 1 + 1, 0, none⟩ (.bool b)).setCell ⟨w.heap.size + 1 + 1 + 1, 0, none⟩ (.int .i64 c)
theorem st3_ne {i : Nat} (s' : ByteArray) (b' : Bool) (c' : Int) (h1 : i ≠ w.heap.size + 1) (h2 : i ≠ w.heap.size + 1 + 1) (h3 : i ≠ w.heap.size + 1 + 1 + 1) : (st3 w A s' b' c').heap[i]? = A.heap[i]? := (set_ne _ h3).trans ((set_ne _ h2).trans (set_ne _ h1))
theorem NX.put (h : NX w a s b c A) (s' : ByteArray) (b' : Bool) (c' : Int) : NX w a s' b' c' (st3 w A s' b' c') := by
  refine ⟨(st3_ne _ _ _ (by omega) (by omega) (by omega)).trans h.bx, ?_, ?_, ?_, ?_⟩
  · exact (set_ne _ (by omega)).trans ((set_ne _ (by omega)).trans (set_one h.r0 _))
  · exact (set_ne _ (by omega)).trans (set_one ((set_ne _ (by omega)).trans h.r1) _)
  · exact set_one ((set_ne _ (by omega)).trans ((set_ne _ (by omega)).trans h.r2)) _
  · exact ((h.below.setCell (p := ⟨w.heap.size + 1, 0, none⟩) (by show w.heap.size ≤ w.heap.size + 1; omega) _).setCell (p := ⟨w.heap.size + 1 + 1, 0, none⟩) (by show w.heap.size ≤ w.heap.size + 1 + 1; omega) _).setCell (p := ⟨w.heap.size + 1 + 1 + 1, 0, none⟩) (by show w.heap.size ≤ w.heap.size + 1 + 1 + 1; omega) _
theorem NX.cells (h : NX w a s b c A) : A.cell? ⟨w.heap.size + 1, 0, none⟩ = some (.string s) ∧ A.frozen? ⟨w.heap.size + 1, 0, none⟩ = false ∧ A.cell? ⟨w.heap.size + 1 + 1, 0, none⟩ = some (.bool b) ∧ A.frozen? ⟨w.heap.size + 1 + 1, 0, none⟩ = false ∧
    A.cell? ⟨w.heap.size + 1 + 1 + 1, 0, none⟩ = some (.int .i64 c) ∧ A.frozen? ⟨w.heap.size + 1 + 1 + 1, 0, none⟩ = false := ⟨cell_one h.r0, froz_one h.r0, cell_one h.r1, froz_one h.r1, cell_one h.r2, froz_one h.r2⟩
end
theorem res41 (tmps : Array Value) (W : World) (n : Nat) (s : ByteArray) (b : Bool) (c : Int) (h4 : tmps.getD 4 undef = .pointer (some ⟨n + 1, 0, none⟩)) (h5 : tmps.getD 5 undef = .pointer (some ⟨n + 1 + 1, 0, none⟩)) (h6 : tmps.getD 6 undef = .pointer (some ⟨n + 1 + 1 + 1, 0, none⟩))
    (hc4 : W.cell? ⟨n + 1, 0, none⟩ = some (.string s)) (hc5 : W.cell? ⟨n + 1 + 1, 0, none⟩ = some (.bool b)) (hc6 : W.cell? ⟨n + 1 + 1 + 1, 0, none⟩ = some (.int .i64 c)) :
    (results Tryz.f41 tmps).run Tryz.prog W = .ok (.tuple #[.string s, .bool b, .int .i64 c]) W := by
  have h4' : tmps[4]?.getD undef = .pointer (some ⟨n + 1, 0, none⟩) := by rw [← h4]; simp
  have h5' : tmps[5]?.getD undef = .pointer (some ⟨n + 1 + 1, 0, none⟩) := by rw [← h5]; simp
  have h6' : tmps[6]?.getD undef = .pointer (some ⟨n + 1 + 1 + 1, 0, none⟩) := by rw [← h6]; simp
  simp [results, Tryz.results41, asAddr, loadVar, Sem.run_bind, Result.andThen, go_sem, h4', h5', h6', hc4, hc5, hc6]
/-- The world in which next begins. -/
def nxW (w : World) (a : Nat) : World := (((w.alloc (.cells #[.pointer (some ⟨a, 0, none⟩)] 24)).alloc (.cells #[.string ⟨#[]⟩] 9)).alloc (.cells #[.bool false] 4)).alloc (.cells #[.int .i64 0] 26)
theorem nxW_nx (w : World) (a : Nat) : NX w a ⟨#[]⟩ false 0 (nxW w a) := by
  have e1 := World.size_alloc w (.cells #[.pointer (some ⟨a, 0, none⟩)] 24)
  have n1 := heap_alloc_new w (.cells #[.pointer (some ⟨a, 0, none⟩)] 24)
  have a1 := al1 w (.cells #[.pointer (some ⟨a, 0, none⟩)] 24)
  unfold nxW
  generalize w.alloc (.cells #[.pointer (some ⟨a, 0, none⟩)] 24) = W1 at *
  have e2 := World.size_alloc W1 (.cells #[.string ⟨#[]⟩] 9)
  have n2 := heap_alloc_new W1 (.cells #[.string ⟨#[]⟩] 9)
  have a2 := al1 W1 (.cells #[.string ⟨#[]⟩] 9)
  generalize W1.alloc (.cells #[.string ⟨#[]⟩] 9) = W2 at *
  have e3 := World.size_alloc W2 (.cells #[.bool false] 4)
  have n3 := heap_alloc_new W2 (.cells #[.bool false] 4)
  have a3 := al1 W2 (.cells #[.bool false] 4)
  generalize W2.alloc (.cells #[.bool false] 4) = W3 at *
  have n4 := heap_alloc_new W3 (.cells #[.int .i64 0] 26)
  have a4 := al1 W3 (.cells #[.int .i64 0] 26)
  generalize W3.alloc (.cells #[.int .i64 0] 26) = W4 at *
  rw [e1] at e2 n2
  rw [e2] at e3 n3
  rw [e3] at n4
  exact ⟨(a4.block _ (by omega)).trans ((a3.block _ (by omega)).trans ((a2.block _ (by omega)).trans n1)), (a4.block _ (by omega)).trans ((a3.block _ (by omega)).trans n2), (a4.block _ (by omega)).trans n3, n4, nx a1 (nx a2 (nx a3 a4))⟩
set_option maxRecDepth 100000 in
set_option maxHeartbeats 2000000 in
theorem next_none {w : World} {a : Nat} {mb : Option Nat} {L : Row} (h : FO w a mb L) (x : Tx) (hx : x.length ≤ 9223372036854775807) (hg : get L x = none) :
    Calls Tryz.prog 41 #[.pointer (some ⟨a, 0, none⟩), tx x] w fun e W' => AnsN L x e ∧ Below w.heap.size w W' := by
  have HA : Hid (next L x = ([], false, 240)) := hide (by unfold next; rw [hg])
  have hN := nxW_nx w a
  have ho := of_any (h.later hN.below) x hx
  rw [hg, get_none.1 hg] at ho
  have hbx := cell_one hN.bx
  unfold tx linkV at *
  unfold nxW at *
  clear h hg
  go_enter Tryz.func41, Tryz.ntmps41
  go_wp2_with fail
  refine ho.mono ?_
  rintro e w1 ⟨rfl, b1⟩
  have hN1 := (hN.later b1).later (al1 w1 (.cells #[.string ⟨#[]⟩, .bool false] 64))
  obtain ⟨k1, k2, k3, k4, k5, k6⟩ := hN1.cells
  have HN1 := hide (hN1.put ⟨#[]⟩ false 240)
  clear ho hN hbx hN1 b1
  simp only [Option.getD_none] at *
  go_wp2
  exact bodyPost_ret (v := .tuple #[.string ⟨#[]⟩, .bool false, .int .i64 240]) (res41 _ _ w.heap.size ⟨#[]⟩ false 240 rfl rfl rfl (cell_one HN1.out.r0) (cell_one HN1.out.r1) (cell_one HN1.out.r2)) rfl ⟨by unfold AnsN; rw [HA.out]; rfl, HN1.out.below⟩
set_option maxRecDepth 100000 in
set_option maxHeartbeats 2000000 in
theorem next_named {w : World} {a : Nat} {mb : Option Nat} {L : Row} (h : FO w a mb L) (x p : Tx) (hx : x.length ≤ 9223372036854775807) (hg : get L x = some p) (hp : p ≠ []) :
    Calls Tryz.prog 41 #[.pointer (some ⟨a, 0, none⟩), tx x] w fun e W' => AnsN L x e ∧ Below w.heap.size w W' := by
  have HA : Hid (next L x = if has L p then (p, true, 0) else ([], false, 110)) := hide (by unfold next; rw [hg]; simp only; rw [if_neg hp])
  have hN := nxW_nx w a
  have ho := of_any (h.later hN.below) x hx
  have hh : has L x = true := by rw [← get_has, hg]; rfl
  have hpl : p.length ≤ 40 := by have := h.get_small x; rw [hg] at this; exact this
  have hpb : (!(p == [])) = true := by simpa using hp
  have hhas := fun W (hW : Below w.heap.size w W) => has_any (h.later hW) p (by omega)
  rw [hg, hh, Option.getD_some] at ho
  have hbx := cell_one hN.bx
  unfold tx linkV at *
  rw [hpb] at ho
  unfold nxW at *
  clear h hg hh hp hpb
  generalize has L p = hb at *
  go_enter Tryz.func41, Tryz.ntmps41
  go_wp2_with fail
  refine ho.mono ?_
  rintro e w1 ⟨rfl, b1⟩
  have hN1 := (hN.later b1).later (al1 w1 (.cells #[.string ⟨p.toArray⟩, .bool true] 64))
  have hbx1 := cell_one hN1.bx
  have k0 := heap_alloc_new w1 (.cells #[.string ⟨p.toArray⟩, .bool true] 64)
  have bA := hN1.below
  clear ho hN hbx b1
  go_wp2_with fail
  refine (hhas _ bA).mono ?_
  rintro e w2 ⟨rfl, b2⟩
  have hN2 := hN1.later b2
  have k1 := (b2.block _ (Array.getElem?_eq_some_iff.1 k0).1).trans k0
  have c0 : w2.cell? ⟨w1.heap.size, 0, none⟩ = some (.string ⟨p.toArray⟩) := by simp [World.cell?, k1]
  have c1 : w2.cell? ⟨w1.heap.size, 1, none⟩ = some (.bool true) := by simp [World.cell?, k1]
  obtain ⟨q1, q2, q3, q4, q5, q6⟩ := hN2.cells
  cases hb with
  | false =>
    have HN1 := hide (hN2.put ⟨#[]⟩ false 110)
    clear hhas hN1 hN2 bA b2 hbx1 k0 k1
    go_wp2
    exact bodyPost_ret (v := .tuple #[.string ⟨#[]⟩, .bool false, .int .i64 110]) (res41 _ _ w.heap.size ⟨#[]⟩ false 110 rfl rfl rfl (cell_one HN1.out.r0) (cell_one HN1.out.r1) (cell_one HN1.out.r2)) rfl ⟨by unfold AnsN; rw [HA.out]; rfl, HN1.out.below⟩
  | true =>
    have HN1 := hide (hN2.put ⟨p.toArray⟩ true 0)
    clear hhas hN1 hN2 bA b2 hbx1 k0 k1
    go_wp2
    exact bodyPost_ret (v := .tuple #[.string ⟨p.toArray⟩, .bool true, .int .i64 0]) (res41 _ _ w.heap.size ⟨p.toArray⟩ true 0 rfl rfl rfl (cell_one HN1.out.r0) (cell_one HN1.out.r1) (cell_one HN1.out.r2)) rfl ⟨by unfold AnsN; rw [HA.out]; rfl, HN1.out.below⟩
end C
end Go.Proofs.YtbeihgjonhgfmaaGreatDoor
