/- What the statements' first look (known) answers: true, and nothing that was there has turned. -/
import Derived.Test.YtnkdlnphmfbagaaDoorPut
import Derived.Laws.BytesArg
import Derived.Lib.SlBytesConst
namespace Go.Proofs.YtnkdlnphmfbagaaDoor
open Go.RowKit

/-- string(b). -/
theorem conv_any (w : World) (ao : Option Addr) (bs : List UInt8) (cap : Nat) (h : Rd w ao bs) :
    (convert 22 9 (.slice ao bs.length cap)).run Tryd.prog w = .ok (.string ⟨bs.toArray⟩) w := by
  by_cases hb : bs.length = 0
  · obtain rfl : bs = [] := List.eq_nil_of_length_eq_zero hb
    cases ao with
    | none => exact run_convert_bytes_nil w 22 5 Tryd.underlying22 Tryd.underlying5 _ _ 9 Tryd.underlying9
    | some a =>
      rw [run_convert_bytes_string w 22 9 5 _ _ _ Tryd.underlying22 Tryd.underlying5 Tryd.underlying9]
      exact run_bytesToString w a 0 cap [] (run_loadCells_list (P := Tryd.prog) w a [] (fun j v hj => by simp at hj))
  · obtain ⟨b, off, rfl, _⟩ := h 0 (by omega)
    have := run_convert_bytes_arg (P := Tryd.prog) (w := w) 22 5 Tryd.underlying22 Tryd.underlying5 b off bs.length cap (bs.map fun c => (c.toNat : Int)) (by simp) (fun i hi => by
      obtain ⟨b', off', e, hc⟩ := h i hi
      simp only [Option.some.injEq, Addr.mk.injEq] at e
      obtain ⟨rfl, rfl, _⟩ := e
      rw [hc]
      simp [hi]) 9 Tryd.underlying9
    rw [this]
    simp [strOfNums, Function.comp_def]

theorem rd_new (w : World) (bs : List UInt8) (cs : Array Value) (fz : Nat × Nat) (hcs : cs = (cellsOf bs).toArray) : Rd (w.alloc (.cells cs 5 fz)) (some ⟨w.heap.size, 0, none⟩) bs := by
  subst hcs
  intro i hi
  refine ⟨w.heap.size, 0, rfl, ?_⟩
  unfold World.cell?
  rw [heap_alloc_new]
  simp [cellsOf, hi]

theorem num_known : M.num (([1, 2, 3] : List UInt8).take (M.held 2)) = 513 := by decide
theorem sum_known : M.sum [49, 50, 51, 52, 53, 54, 55, 56, 57] = 3421780262 := by decide +kernel
theorem more_known : M.more (M.sum [49, 50, 51, 52]) [53, 54, 55, 56, 57] = 3421780262 := by decide +kernel
theorem put_known : ([] : List UInt8) ++ M.le 513 (M.held 3) = [1, 2, 0] := by decide

set_option maxHeartbeats 800000 in
theorem known_any (w : World) (ht : Tab w) : Calls Tryd.prog 9 #[] w fun e w' => e = .returned (.bool true) ∧ Below w.heap.size w w' := by
  have kc := fun (w : World) (C : Array Value) (n c : Nat) => Lib.run_convert_bytes_const (P := Tryd.prog) w 22 5 C n c Tryd.underlying22 Tryd.underlying5
  go_enter Tryd.func9, Tryd.ntmps9
  go_wp2_with fail
  refine (get_ok (some ⟨w.heap.size, 0, none⟩) 3 [1, 2, 3] 2 _ (by decide) (by decide) (rd_new _ _ _ _ rfl) (by decide)).mono ?_
  rintro e w1 ⟨ao1, cap1, zs, hzs, rfl, _, _, _, hb1⟩
  obtain rfl : zs = [3] := hzs
  rw [num_known]
  have hB1 : Below w.heap.size w w1 := ((Below.refl _ _).alloc (Nat.le_refl _) _).trans (hb1.mono (by simp))
  clear hb1
  go_wp2_with fail
  refine (sum_any (some ⟨w1.heap.size, 0, none⟩) 9 [49, 50, 51, 52, 53, 54, 55, 56, 57] _ (by decide) ((ht.later hB1).later ((Below.refl _ _).alloc (Nat.le_refl _) _)) (rd_new _ _ _ _ rfl)).mono ?_
  rintro e w2 ⟨rfl, rfl⟩
  rw [sum_known]
  go_wp2_with fail
  refine (put_any none 0 [] 513 (by decide) 3 _ (by decide) (fun i hi => by simp at hi)).mono ?_
  rintro e w3 ⟨ao3, cap3, zs, hzs, rfl, _, _, hr3, hb3⟩
  rw [put_known] at hzs
  subst hzs
  have hB3 : Below w.heap.size w w3 := (hB1.alloc hB1.size _).trans (hb3.mono (by have := hB1.size; simp; omega))
  have hcv : (convert 22 9 (.slice ao3 3 cap3)).run Tryd.prog w3 = .ok (.string ⟨#[1, 2, 0]⟩) w3 := conv_any w3 ao3 [1, 2, 0] cap3 hr3
  clear hb3
  go_wp2_with fail
  refine (sum_any (some ⟨w3.heap.size, 0, none⟩) 4 [49, 50, 51, 52] _ (by decide) ((ht.later hB3).later ((Below.refl _ _).alloc (Nat.le_refl _) _)) (rd_new _ _ _ _ rfl)).mono ?_
  rintro e w4 ⟨rfl, hw4⟩
  have hB4 : Below w.heap.size w w4 := by rw [← hw4]; exact hB3.alloc hB3.size _
  clear hw4 hcv
  go_wp2_with fail
  refine (more_any (M.sum [49, 50, 51, 52]) (M.sum_lt _) (some ⟨w4.heap.size, 0, none⟩) 5 [53, 54, 55, 56, 57] _ (by decide) ((ht.later hB4).later ((Below.refl _ _).alloc (Nat.le_refl _) _)) (rd_new _ _ _ _ rfl)).mono ?_
  rintro e w5 ⟨rfl, hw5⟩
  have hB5 : Below w.heap.size w w5 := by rw [← hw5]; exact hB4.alloc hB4.size _
  clear hw5
  rw [more_known]
  go_wp2
  go_ret
  exact ⟨rfl, hB5⟩
end Go.Proofs.YtnkdlnphmfbagaaDoor
