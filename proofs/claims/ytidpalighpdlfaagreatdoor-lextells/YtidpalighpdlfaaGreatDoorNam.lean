/- strings.Clone, named, ident, number, name of lex. -/
import Derived.Test.YtidpalighpdlfaaGreatDoorBlk
import Derived.Test.YtidpalighpdlfaaGreatDoorShelf
namespace Go.Proofs.YtidpalighpdlfaaGreatDoor
open Go.RowKit

/-- A sign with its place, as a value. -/
def tokV (t : X.Tk) (k : Nat) : Value := .agg #[.int .i64 (t.kind : Int), .int .i64 (k : Int), .string ⟨t.text.toArray⟩, .int .i32 t.r]
/-- What stands at a place is told. -/
def AnsT (o : Option (X.Tk × Nat)) (k : Nat) (e : Ending) : Prop := ∃ t n, e = .returned (.tuple #[tokV t k, .int .i64 ((n : Nat) : Int)]) ∧ (∀ p, o = some p → t = p.1 ∧ n = p.2) ∧ (o = none → n = 0)
def tz : X.Tk := ⟨0, [], 0⟩
theorem ansT_none {o : Option (X.Tk × Nat)} (h : o = none) : AnsT o 0 (.returned (.tuple #[tokV tz 0, .int .i64 0])) := ⟨tz, 0, rfl, (by rw [h]; intro p h; cases h), fun _ => rfl⟩
theorem ansT_some {o : Option (X.Tk × Nat)} {t : X.Tk} {n : Nat} (h : o = some (t, n)) : AnsT o 0 (.returned (.tuple #[tokV t 0, .int .i64 (n : Int)])) := ⟨t, n, rfl, (by rw [h]; intro p h; cases h; exact ⟨rfl, rfl⟩), (by rw [h]; intro h; cases h)⟩

theorem cells_four {W : World} {k : Nat} {u v x y : Value} {t : TypeId} (h : W.heap[k]? = some (.cells #[u, v, x, y] t)) : W.cell? ⟨k, 0, none⟩ = some u ∧ W.cell? ⟨k, 1, none⟩ = some v ∧ W.cell? ⟨k, 2, none⟩ = some x ∧ W.cell? ⟨k, 3, none⟩ = some y := by
  simp [World.cell?, h]
theorem frozen_row {W : World} {k : Nat} {cs : Array Value} {t : TypeId} (h : W.heap[k]? = some (.cells cs t)) (j : Nat) : W.frozen? ⟨k, j, none⟩ = false := by
  simp [World.frozen?, h]
theorem four_set {w wr : World} (hb : Below w.heap.size w wr) (a b c d : Value) : Below w.heap.size w ((((wr.setCell ⟨w.heap.size, 0, none⟩ a).setCell ⟨w.heap.size, 1, none⟩ b).setCell ⟨w.heap.size, 2, none⟩ c).setCell ⟨w.heap.size, 3, none⟩ d) :=
  ((((hb.setCell (p := ⟨w.heap.size, 0, none⟩) (Nat.le_refl _) a).setCell (p := ⟨w.heap.size, 1, none⟩) (Nat.le_refl _) b).setCell (p := ⟨w.heap.size, 2, none⟩) (Nat.le_refl _) c).setCell (p := ⟨w.heap.size, 3, none⟩) (Nat.le_refl _) d)
/-- The room for a sign, made at a call's beginning. -/
abbrev room : Obj := .cells #[.int .i64 0, .int .i64 0, .string ⟨#[]⟩, .int .i32 0] 33
/-- What a call behind the room's making leaves of it. -/
theorem room_kept {w w1 : World} {o : Obj} (hb : Below (w.alloc o).heap.size (w.alloc o) w1) : w1.heap[w.heap.size]? = some o ∧ Below w.heap.size w w1 :=
  ⟨(hb.block w.heap.size (by simp)).trans (heap_alloc_new w o), nx (al1 w o) hb⟩

theorem clone_any (s : ByteArray) (hs : s.size ≤ 100000) (w : World) : Calls Tryz.prog 64 #[.string s] w fun e w' => e = .returned (.string s) ∧ Below w.heap.size w w' := by
  have hc := stringslite_Clone s w (by omega)
  go_enter Tryz.func64, Tryz.ntmps64
  go_wp2_with fail
  refine hc.mono ?_
  rintro e w' ⟨rfl, hb⟩
  go_wp2
  go_ret
  exact ⟨rfl, hb⟩
set_option maxHeartbeats 1000000 in
theorem named_any (k : Int) (s : ByteArray) (hs : s.size ≤ 100000) (w : World) : Calls Tryz.prog 50 #[.int .i64 k, .string s] w fun e w' => e = .returned (.agg #[.int .i64 k, .int .i64 0, .string s, .int .i32 0]) ∧ Below w.heap.size w w' := by
  go_enter Tryz.func50, Tryz.ntmps50
  go_wp2_with fail
  refine (clone_any s hs _).mono ?_
  rintro e w1 ⟨rfl, hb⟩
  obtain ⟨hr0, hbb⟩ := room_kept hb
  clear hb
  obtain ⟨d0, d1, d2, d3⟩ := cells_four hr0
  have f0 := frozen_row hr0 0
  have f1 := frozen_row hr0 1
  have f2 := frozen_row hr0 2
  have f3 := frozen_row hr0 3
  go_wp2
  exact bodyPost_ret (v := .agg #[.int .i64 k, .int .i64 0, .string s, .int .i32 0]) (by simp [results, Tryz.results50, go_sem, d0, d1, d2, d3]) rfl ⟨rfl, four_set hbb _ _ _ _⟩
theorem mk_bts (s : ByteArray) : (⟨(bts s).toArray⟩ : ByteArray) = s := rfl
theorem agg_tok (k : Nat) (s : ByteArray) : (.agg #[.int .i64 (k : Int), .int .i64 0, .string s, .int .i32 0] : Value) = tokV ⟨k, bts s, 0⟩ 0 := rfl
theorem bts_ext (s : ByteArray) (a b : Nat) : bts (s.extract a b) = ((bts s).drop a).take (b - a) := by
  unfold bts
  rw [← Lib.toList_data, Lib.extract_toList]
theorem bts_take (s : ByteArray) (n : Nat) : bts (s.extract 0 n) = (bts s).take n := by
  rw [bts_ext, List.drop_zero, Nat.sub_zero]
theorem ext_size (s : ByteArray) (a b : Nat) (h : b ≤ s.size) : (s.extract a b).size = b - a := by
  have := congrArg List.length (bts_ext s a b)
  rw [bts_len, List.length_take, List.length_drop, bts_len] at this
  omega

set_option maxHeartbeats 1000000 in
theorem ident_lex (s : ByteArray) (hs : s.size ≤ 100000) (w : World) : Calls Tryz.prog 36 #[.string s] w fun e w' => AnsT (some (⟨8, (bts s).takeWhile X.isI, 0⟩, ((bts s).takeWhile X.isI).length)) 0 e ∧ Below w.heap.size w w' := by
  have hrun := run_ident s hs (w.alloc room)
  have hle := X.takeWhile_le X.isI (bts s)
  rw [bts_len] at hle
  obtain ⟨n, hn⟩ : ∃ n, ((bts s).takeWhile X.isI).length = n := ⟨_, rfl⟩
  have ht : (bts s).takeWhile X.isI = bts (s.extract 0 n) := by
    rw [bts_take, ← hn]
    exact List.prefix_iff_eq_take.1 (List.takeWhile_prefix X.isI)
  rw [hn] at hrun hle
  have HN := hide hn
  have HT := hide ht
  clear hn ht
  go_enter Tryz.func36, Tryz.ntmps36
  go_wp2_with fail
  refine hrun.mono ?_
  rintro e w1 ⟨rfl, rfl⟩
  have hnm := named_any 8 (s.extract 0 n) (by rw [ext_size _ _ _ hle]; omega) (w.alloc room)
  go_wp2_with fail
  refine hnm.mono ?_
  rintro e w1 ⟨rfl, hb⟩
  obtain ⟨hr0, hbb⟩ := room_kept hb
  clear hb hnm hrun
  obtain ⟨d0, d1, d2, d3⟩ := cells_four hr0
  have f0 := frozen_row hr0 0
  have f1 := frozen_row hr0 1
  have f2 := frozen_row hr0 2
  have f3 := frozen_row hr0 3
  go_wp2
  exact bodyPost_ret (v := .tuple #[.agg #[.int .i64 8, .int .i64 0, .string (s.extract 0 n), .int .i32 0], .int .i64 (n : Int)]) (by simp [results, Tryz.results36, go_sem, d0, d1, d2, d3]) rfl ⟨ansT_some (t := ⟨8, bts (s.extract 0 n), 0⟩) (n := n) (by rw [HN.out, HT.out]), four_set hbb _ _ _ _⟩
end Go.Proofs.YtidpalighpdlfaaGreatDoor
