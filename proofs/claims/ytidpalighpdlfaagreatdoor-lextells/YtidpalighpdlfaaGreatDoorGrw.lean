/- strings.Builder: Grow, of a builder that was never written. -/
import Derived.Test.YtidpalighpdlfaaGreatDoorFmt
import Derived.Deep.QuietTactic
import Derived.BigQuiet
import Derived.WalkSmall
namespace Go.Proofs.YtidpalighpdlfaaGreatDoor
open Go.RowKit Go.Shelf

theorem Builder_Extra_241 : Builder.Extra Tryz.prog lays241_ren := {
  sizeBuilder := by kernel_rfl
  liesBuilder := by kernel_rfl
  t5 := Tryz.underlying5
  a5 := Tryz.isAgg5
  z5 := Tryz.sizeOf5
  v5 := Tryz.zeroValue5
  infoByte := by kernel_rfl
  cellsByte := by kernel_rfl
  sizeByte := by kernel_rfl
  neB5 := by decide }
theorem grow_any (B b n : Nat) (hn : n ≤ 1000000) (w : World) (hB : B ≤ b) (hw : B ≤ w.heap.size) (hbk : w.heap[b]? = some (.cells #[.pointer (some ⟨b, 0, none⟩), .slice none 0 0] 42 (0, 0))) :
    Calls Tryz.prog 70 #[.pointer (some ⟨b, 0, none⟩), .int .i64 (n : Int)] w fun e w' => e = .returned (.tuple #[]) ∧ Lib.BuilderAt 42 5 B b (.pointer (some ⟨b, 0, none⟩)) [] w' ∧ Below B w w' := by
  have := Any.Builder_grow_fresh lays241 Builder_Extra_241 B b n w hB hbk
  exact this hw (by omega)
theorem set_two {w : World} {b : Nat} {p v : Value} {T : TypeId} (h : w.heap[b]? = some (.cells #[p, v] T (0, 0))) (q : Value) : (w.setCell ⟨b, 0, none⟩ q).heap[b]? = some (.cells #[q, v] T (0, 0)) := by
  simp [World.setCell, Array.getElem?_modify, h]
set_option maxHeartbeats 1000000 in
set_option maxRecDepth 100000 in
theorem copy_fresh (b : Nat) (w : World) (h : w.heap[b]? = some (.cells #[.pointer none, .slice none 0 0] 42 (0, 0))) : Calls Tryz.prog 28 #[.pointer (some ⟨b, 0, none⟩)] w fun e w' => e = .returned (.tuple #[]) ∧ w' = w.setCell ⟨b, 0, none⟩ (.pointer (some ⟨b, 0, none⟩)) := by
  obtain ⟨j, hj, hjs⟩ := Option.map_eq_some_iff.1 size46
  have h0 : w.cell? ⟨b, 0, none⟩ = some (.pointer none) := by simp [World.cell?, h]
  have hf : w.frozen? ⟨b, 0, none⟩ = false := by simp [World.frozen?, h]
  have hsh : w.shape? b = some (42, 2) := by simp [World.shape?, h]
  have r1 := Lib.run_to_unsafe (P := Tryz.prog) w ⟨b, 0, none⟩ Tryz.underlying39 Tryz.underlying67 hj (by rw [hjs]; decide) hsh (Nat.zero_lt_succ 1)
  have r2 := Lib.run_from_unsafe (P := Tryz.prog) w ⟨b, 0, none⟩ Tryz.underlying67 Tryz.underlying39 hj hsh lies46
  clear h
  go_enter Tryz.func28, Tryz.ntmps28
  go_wp2
  rw [run_callFunc_extern Tryz.func44 (by kernel_rfl) (by kernel_rfl) (by kernel_rfl) (e := Extern.AbiNoEscape.same) (by kernel_rfl), Lib.run_noEscape]
  simp only [Result.andThen]
  rw [Oper.upon_value]
  go_wp2
  go_end0
  exact ⟨rfl, rfl⟩
set_option maxHeartbeats 1000000 in
set_option maxRecDepth 100000 in
theorem Grow_any (n : Nat) (h1 : 1 ≤ n) (hn : n ≤ 1000000) (w : World) : Calls Tryz.prog 59 #[.pointer (some ⟨w.heap.size, 0, none⟩), .int .i64 (n : Int)] (w.alloc (.cells #[.pointer none, .slice none 0 0] 42)) fun e w' => e = .returned (.tuple #[]) ∧ Bd w.heap.size w.heap.size [] w' ∧ Below w.heap.size w w' := by
  have hr0 := heap_alloc_new w (.cells #[.pointer none, .slice none 0 0] 42)
  have hcc := copy_fresh w.heap.size (w.alloc (.cells #[.pointer none, .slice none 0 0] 42)) hr0
  have hb0 := al1 w (.cells #[.pointer none, .slice none 0 0] 42)
  obtain ⟨W, hW⟩ : ∃ W, (w.alloc (.cells #[.pointer none, .slice none 0 0] 42)).setCell ⟨w.heap.size, 0, none⟩ (.pointer (some ⟨w.heap.size, 0, none⟩)) = W := ⟨_, rfl⟩
  have hbk : W.heap[w.heap.size]? = some (.cells #[.pointer (some ⟨w.heap.size, 0, none⟩), .slice none 0 0] 42 (0, 0)) := by
    rw [← hW]
    exact set_two hr0 _
  have hb1 : Below w.heap.size w W := by rw [← hW]; exact hb0.setCell (p := ⟨w.heap.size, 0, none⟩) (Nat.le_refl _) _
  rw [hW] at hcc
  clear hW
  have c1 : W.cell? ⟨w.heap.size, 1, none⟩ = some (.slice none 0 0) := by simp [World.cell?, hbk]
  have hg := fun q => grow_any w.heap.size w.heap.size n hn (W.drewN q) (Nat.le_refl _) hb1.size hbk
  obtain ⟨A, hA⟩ : ∃ A, w.alloc (.cells #[.pointer none, .slice none 0 0] 42) = A := ⟨_, rfl⟩
  rw [hA] at hcc ⊢
  clear hA hr0 hb0
  go_enter Tryz.func59, Tryz.ntmps59
  go_wp2_with fail
  refine hcc.mono ?_
  rintro e w1 ⟨rfl, rfl⟩
  go_wp2
  go_quiet (fail)
  go_wp2_with fail
  refine (hg _).mono ?_
  rintro e w2 ⟨rfl, h2, hb2⟩
  go_wp2
  go_end0
  exact ⟨rfl, .inr h2, (show Below w.heap.size w (World.drewN w1 nq) from ⟨hb1.os, hb1.tape, hb1.output, hb1.size, hb1.block⟩).trans hb2⟩
end Go.Proofs.YtidpalighpdlfaaGreatDoor
