/- strings.Builder: WriteByte, WriteString, String; quoted of lex. -/
import Derived.Test.YtidpalighpdlfaaGreatDoorBld
import Derived.Test.YtidpalighpdlfaaGreatDoorWrd
namespace Go.Proofs.YtidpalighpdlfaaGreatDoor
open Go.RowKit

theorem slice_of {w : World} {B : Nat} {e : TypeId} {v : Value} {vs : List Value} (h : Own w B e v vs) : ∃ ao n cap, v = .slice ao n cap := by
  rcases h.2 with ⟨hv, _⟩ | ⟨g, cap, cur, hv, _⟩
  · exact ⟨_, _, _, hv⟩
  · exact ⟨_, _, _, hv⟩
set_option maxHeartbeats 2000000 in
set_option maxRecDepth 100000 in
theorem wbyte_k (B b : Nat) (l : List UInt8) (c : UInt8) (w : World) (h : Bd B b l w) (hl : l.length ≤ 1000000) (hBw : B ≤ w.heap.size) : Calls Tryz.prog 13 #[.pointer (some ⟨b, 0, none⟩), U8 c] w fun e w' => e = .returned .nilIface ∧ Bd B b (l ++ [c]) w' ∧ Below B w w' ∧ Kpt b w w' := by
  have hcc := copy_k B b l w h
  unfold U8
  go_enter Tryz.func13, Tryz.ntmps13
  go_wp2_with fail
  refine hcc.mono ?_
  rintro e w1 ⟨rfl, h1, hb1, hk1⟩
  have hlt := h1.lt
  obtain ⟨hB, v, hbk, hown, hne⟩ := h1
  have ho : Own w1 B 5 v (cB l) := hown
  have c1 : w1.cell? ⟨b, 1, none⟩ = some v := by rw [Lib.cell_of_heap hbk]; rfl
  have hsz := hb1.size
  clear hcc h
  go_wp2_with (first
    | (at_builtin; refine wpl_appg Tryz.underlying40 info5 rfl (by decide) rfl _ _ rfl B _ (cB l) (some ⟨w1.heap.size, 0, none⟩) [.int .u8 (c.toNat : Int)] 1 1 rfl rfl rfl (ho.later ((Below.refl _ _).alloc (Nat.le_refl _) _)) (by have := hsz; simp; omega) (rd_new _ _ _ _ _ rfl) (by simp [Value.oneCell']) (fun e => by cases e) (by rw [cB_length]; simp; omega) ?_; intro v3 w3 hv3 hb3 hg3; (have hb2 : w3.heap[b]? = some (.cells #[.pointer (some ⟨b, 0, none⟩), v] 42 (0, 0)) := (by rw [hg3.block b (by simp; omega) (fun e => hne e.symm), Lib.alloc_old w1 _ b hlt]; exact hbk)); (have d1 : w3.cell? ⟨b, 1, none⟩ = some v := (by rw [Lib.cell_of_heap hb2]; rfl)); (have f1 : w3.frozen? ⟨b, 1, none⟩ = false := Lib.frozen_of_heap hb2 1); obtain ⟨ao, n', cap, rfl⟩ := slice_of hv3))
  go_ret
  have hB3 : Below B w w3 := (hb1.alloc (by omega) _).trans hb3
  refine ⟨rfl, .inr (Lib.BuilderAt.put (T := 42) (e := 5) hB hb2 (bs' := cB (l ++ [c])) ?_ (by decide)), hB3.setCell (p := ⟨b, 1, none⟩) hB _, ((hk1.alloc _).grown (ho.later ((Below.refl _ _).alloc (Nat.le_refl _) _)) hg3).set _⟩
  rw [cB_append]
  exact hv3
set_option maxHeartbeats 2000000 in
set_option maxRecDepth 100000 in
theorem wstr_k (B b : Nat) (l : List UInt8) (s : ByteArray) (w : World) (h : Bd B b l w) (hl : l.length ≤ 1000000) (hs : s.size ≤ 1000000) (hBw : B ≤ w.heap.size) : Calls Tryz.prog 14 #[.pointer (some ⟨b, 0, none⟩), .string s] w fun e w' => e = .returned (.tuple #[.int .i64 s.size, .nilIface]) ∧ Bd B b (l ++ bts s) w' ∧ Below B w w' ∧ Kpt b w w' := by
  have hcc := copy_k B b l w h
  obtain ⟨i0, hi, hz0, hz1, hz2⟩ := info_parts info5
  go_enter Tryz.func14, Tryz.ntmps14
  go_wp2_with fail
  refine hcc.mono ?_
  rintro e w1 ⟨rfl, h1, hb1, hk1⟩
  have hlt := h1.lt
  obtain ⟨hB, v, hbk, hown, hne⟩ := h1
  have hll := cB_length l
  have c1 : w1.cell? ⟨b, 1, none⟩ = some v := by rw [Lib.cell_of_heap hbk]; rfl
  have hsz := hb1.size
  clear hcc h
  go_wp2_with (first
    | (at_builtin; refine Lib.wpList_append_own_string _ rfl _ _ 40 9 rfl B 5 i0 Tryz.underlying40 Tryz.underlying9 hi hz0 hz1 hz2 _ _ _ rfl hown s rfl (by unfold maxLen; omega) (by omega) (by omega) ?_; intro v3 w3 hv3 hg3 _; (have hb2 : w3.heap[b]? = some (.cells #[.pointer (some ⟨b, 0, none⟩), v] 42 (0, 0)) := (by rw [hg3.block b hlt (fun e => hne e.symm)]; exact hbk)); (have d1 : w3.cell? ⟨b, 1, none⟩ = some v := (by rw [Lib.cell_of_heap hb2]; rfl)); (have f1 : w3.frozen? ⟨b, 1, none⟩ = false := Lib.frozen_of_heap hb2 1); (have ho3 : Own w3 B 5 v3 (cB (l ++ bts s)) := (by unfold Own; rw [cB_append, List.length_append, ← str_cells, Lib.strCells_length]; exact hv3)); obtain ⟨ao, n', cap, rfl⟩ := slice_of ho3))
  go_ret2
  refine ⟨rfl, .inr (Lib.BuilderAt.put (T := 42) (e := 5) hB hb2 (bs' := cB (l ++ bts s)) ho3 (by decide)), (hb1.grown hg3 (by omega) (fun k hk => (hown.lt k hk).1)).setCell (p := ⟨b, 1, none⟩) hB _, (hk1.grown hown hg3).set _⟩
theorem wbyte_any (B b : Nat) (l : List UInt8) (c : UInt8) (w : World) (h : Bd B b l w) (hl : l.length ≤ 1000000) (hBw : B ≤ w.heap.size) : Calls Tryz.prog 13 #[.pointer (some ⟨b, 0, none⟩), U8 c] w fun e w' => e = .returned .nilIface ∧ Bd B b (l ++ [c]) w' ∧ Below B w w' :=
  (wbyte_k B b l c w h hl hBw).mono fun _ _ h => ⟨h.1, h.2.1, h.2.2.1⟩
theorem wstr_any (B b : Nat) (l : List UInt8) (s : ByteArray) (w : World) (h : Bd B b l w) (hl : l.length ≤ 1000000) (hs : s.size ≤ 1000000) (hBw : B ≤ w.heap.size) : Calls Tryz.prog 14 #[.pointer (some ⟨b, 0, none⟩), .string s] w fun e w' => e = .returned (.tuple #[.int .i64 s.size, .nilIface]) ∧ Bd B b (l ++ bts s) w' ∧ Below B w w' :=
  (wstr_k B b l s w h hl hs hBw).mono fun _ _ h => ⟨h.1, h.2.1, h.2.2.1⟩
theorem bstr_any (B b : Nat) (l : List UInt8) (w : World) (h : Bd B b l w) (hBw : B ≤ w.heap.size) : Calls Tryz.prog 16 #[.pointer (some ⟨b, 0, none⟩)] w fun e w' => e = .returned (.string ⟨l.toArray⟩) ∧ Below B w w' := Builder_String_any B b l w h hBw
end Go.Proofs.YtidpalighpdlfaaGreatDoor
