/- regex's small functions on signs. -/
import Derived.Test.YtemanednddhfaaaGreatDoorPsp
import Derived.Test.YtemanednddhfaaaGreatDoorJD
import Derived.Test.YtemanednddhfaaaGreatDoorRga
namespace Go.Proofs.YtemanednddhfaaaGreatDoor
open Go.RowKit
open E (T tk isS rpt beg)
theorem elemSize74k (w : World) : (sizeOf (Tryz.prog.elem 74)).run Tryz.prog w = .ok 4 w := by kernel_rfl
theorem tk_in {l : List E.Tok} {i : Nat} (h : i < l.length) : tk l i = l[i] := by rw [E.tk, List.getD_eq_getElem?_getD, List.getElem?_eq_getElem h]; rfl
theorem tk_out {l : List E.Tok} {i : Nat} (h : l.length ≤ i) : tk l i = E.tzz := by rw [E.tk, List.getD_eq_getElem?_getD, List.getElem?_eq_none h]; rfl
set_option maxHeartbeats 1000000 in
theorem signAt_any (ao : Option Addr) (cap : Nat) (l : List E.Tok) (i : Nat) (w : World) (hr : RdK w ao l) :
   Calls Tryz.prog 45 #[.slice ao l.length cap, .int .i64 (i : Int)] w fun e w' => e = .returned (tokV (tk l i).1 (tk l i).2) ∧ Below w.heap.size w w' := by
 by_cases h : i < l.length
 · obtain ⟨b, off, rfl, c0, c1, c2, c3⟩ := hr i h
   rw [tk_in h]
   have hix := elemSize74k
   have hlt : b < w.heap.size := U.cell_lt c0
   obtain ⟨t, ht⟩ : ∃ t, l[i] = t := ⟨_, rfl⟩
   rw [ht] at c0 c1 c2 c3 ⊢
   clear ht hr
   have e1 : decide ((i : Int) < 0) = false := by simp
   have e2 : decide ((l.length : Int) ≤ (i : Int)) = false := by simp; omega
   go_enter Tryz.func45, Tryz.ntmps45
   go_wp2
   exact bodyPost_ret (v := tokV t.1 t.2) (by unfold tokV; simp [results, Tryz.results45, go_sem]) rfl ⟨rfl, al1 w _⟩
 · rw [tk_out (by omega)]
   have e1 : decide ((i : Int) < 0) = false := by simp
   have e2 : decide ((l.length : Int) ≤ (i : Int)) = true := by simp; omega
   go_enter Tryz.func45, Tryz.ntmps45
   go_wp2
   exact bodyPost_ret (v := tokV tz 0) (by unfold tokV; simp [results, Tryz.results45, go_sem, tz]) rfl ⟨rfl, al1 w _⟩
set_option maxHeartbeats 1000000 in
theorem isSign_any (t : E.Tok) (c : List UInt8) (w : World) : Calls Tryz.prog 137 #[tokV t.1 t.2, .string ⟨c.toArray⟩] w fun e w' => e = .returned (.bool (isS t c)) ∧ Below w.heap.size w w' := by
 unfold tokV E.isS
 have hq : ((⟨t.1.text.toArray⟩ : ByteArray).toList == (⟨c.toArray⟩ : ByteArray).toList) = (t.1.text == c) := by
   rw [ByteArray.toList_eq, ByteArray.toList_eq]
 by_cases hk : t.1.kind = 6
 · have e1 : ((t.1.kind : Int) == 6) = true := by simp [hk]
   rw [decide_eq_true hk, Bool.true_and]
   clear hk hq
   go_enter Tryz.func137, Tryz.ntmps137
   go_wp2
   go_ret
   exact ⟨rfl, al1 w _⟩
 · have e1 : ((t.1.kind : Int) == 6) = false := by simp; omega
   rw [decide_eq_false hk, Bool.false_and]
   clear hk hq
   go_enter Tryz.func137, Tryz.ntmps137
   go_wp2
   go_ret
   exact ⟨rfl, al1 w _⟩
set_option maxRecDepth 100000 in
set_option maxHeartbeats 1000000 in
theorem next_any {w : World} {R : Nat} {ao : Option Addr} {cap : Nat} {l : List E.Tok} {i o : Nat} (h : Rdr w R ao cap l i o) :
   Calls Tryz.prog 136 #[.pointer (some ⟨R, 0, none⟩)] w fun e w' => e = .returned (tokV (tk l i).1 (tk l i).2) ∧ Below w.heap.size w w' := by
 have h1 := h.later (al1 w (.cells #[.int .i64 0, .int .i64 0, .string ⟨#[]⟩, .int .i32 0] 79))
 obtain ⟨W, hW⟩ : ∃ W, w.alloc (.cells #[.int .i64 0, .int .i64 0, .string ⟨#[]⟩, .int .i32 0] 79) = W := ⟨_, rfl⟩
 have hbx : W.heap[w.heap.size]? = some (.cells #[.int .i64 0, .int .i64 0, .string ⟨#[]⟩, .int .i32 0] 79) := by rw [← hW]; exact heap_alloc_new w _
 have hbw : Below w.heap.size w W := by rw [← hW]; exact al1 w _
 have hsz : W.heap.size = w.heap.size + 1 := by rw [← hW]; simp
 rw [hW] at h1
 have hc := signAt_any ao cap l i W.drew h1.rd
 obtain ⟨c0, c1, c2⟩ := h1.cells
 generalize tk l i = t at *
 have HZ := hide hsz
 clear hsz
 go_enter Tryz.func136, Tryz.ntmps136
 go_wp2_with fail
 refine Reg.start (B := w.heap.size) (by kernel_rfl) ?_
 refine Reg.take (fun _ _ _ _ _ h => h) 0 _ 3 (.pointer (some ⟨R, 0, none⟩)) rfl (by kernel_rfl) (by kernel_rfl) (by kernel_rfl) rfl (by kernel_rfl) (by kernel_rfl) (fun wx hb => by kernel_rfl) ?_
 refine Reg.take (fun _ _ _ _ _ h => h) 1 _ 4 (.pointer (some ⟨R, 0, none⟩)) rfl (by kernel_rfl) (by kernel_rfl) (by kernel_rfl) rfl (by kernel_rfl) (by kernel_rfl) (fun wx hb => by kernel_rfl) ?_
 refine Reg.take (fun _ _ _ _ _ h => h) 2 _ 5 (.pointer (some ⟨R, 0, none⟩)) rfl (by kernel_rfl) (by kernel_rfl) (by kernel_rfl) rfl (by kernel_rfl) (by kernel_rfl) (fun wx hb => by kernel_rfl) ?_
 refine Reg.take (fun _ _ _ _ _ h => h) 3 _ 6 (.slice ao l.length cap) rfl (by kernel_rfl) (by kernel_rfl) (by kernel_rfl) rfl (by kernel_rfl) (by kernel_rfl) (fun wx hb => Reg.ldS rfl (by kernel_rfl) ((hb.cell h.lt).trans c0) (Tryz.isAgg74 _)) ?_
 refine Reg.take (fun _ _ _ _ _ h => h) 4 _ 7 (.pointer (some ⟨R, 0, none⟩)) rfl (by kernel_rfl) (by kernel_rfl) (by kernel_rfl) rfl (by kernel_rfl) (by kernel_rfl) (fun wx hb => by kernel_rfl) ?_
 refine Reg.take (fun _ _ _ _ _ h => h) 5 _ 8 (.pointer (some ⟨R, 0, none⟩)) rfl (by kernel_rfl) (by kernel_rfl) (by kernel_rfl) rfl (by kernel_rfl) (by kernel_rfl) (fun wx hb => by kernel_rfl) ?_
 refine Reg.take (fun _ _ _ _ _ h => h) 6 _ 9 (.pointer (some ⟨R, 1, none⟩)) rfl (by kernel_rfl) (by kernel_rfl) (by kernel_rfl) rfl (by kernel_rfl) (by kernel_rfl) (fun wx hb => by kernel_rfl) ?_
 refine Reg.take (fun _ _ _ _ _ h => h) 7 _ 10 (.int .i64 (i : Int)) rfl (by kernel_rfl) (by kernel_rfl) (by kernel_rfl) rfl (by kernel_rfl) (by kernel_rfl) (fun wx hb => Reg.ldS rfl (by kernel_rfl) ((hb.cell h.lt).trans c1) (Tryz.isAgg3 _)) ?_
 refine Reg.call 8 _ 11 45 _ _ #[.slice ao l.length cap, .int .i64 (i : Int)] rfl (by kernel_rfl) rfl (by kernel_rfl) (by kernel_rfl) rfl (by kernel_rfl) (by kernel_rfl) hc ?_
 rintro e w2 ⟨rfl, hb2⟩
 have hb3 : Below w.heap.size w w2 := hbw.drew.trans (hb2.mono hbw.size)
 have hbx2 := (hb2.block w.heap.size (by have := HZ.out; simp; omega)).trans hbx
 refine ⟨_, w.heap.size, rfl, Nat.le_refl _, hb2.mono hbw.size, ?_⟩
 refine Reg.onlyS 9 _ rfl (by kernel_rfl) rfl (by kernel_rfl) (by kernel_rfl) ⟨_, w.heap.size, Reg.stT rfl rfl rfl hbx2, Nat.le_refl _, putT_below (Below.refl _ _) (Nat.le_refl _), ?_⟩
 refine Reg.done (by kernel_rfl) ?_
 simp only [Reg.ov, Act.put, List.setIfInBounds_toArray, List.set_cons_succ, List.set_cons_zero]
 obtain ⟨d0, d1, d2, d3⟩ := cells_four (putT_box (a := (t.1.kind : Int)) (c := (t.2 : Int)) (s := ⟨t.1.text.toArray⟩) (r := t.1.r) hbx2)
 go_wp2
 exact bodyPost_ret (v := tokV t.1 t.2) (by unfold tokV; simp [results, Tryz.results136, go_sem, d0, d1, d2, d3]) rfl ⟨rfl, putT_below hb3 (Nat.le_refl _)⟩
end Go.Proofs.YtemanednddhfaaaGreatDoor
