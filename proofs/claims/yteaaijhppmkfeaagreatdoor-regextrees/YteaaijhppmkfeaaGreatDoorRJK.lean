/- Joined: Bld Bldw Rcode Quo Fmt Grw Upp Prt Prl. -/
import Derived.Test.YteaaijhppmkfeaaGreatDoorRJA
import Derived.Test.YteaaijhppmkfeaaGreatDoorRJD
import Derived.Lib.Builder
import Derived.Lib.AppendStr
import Derived.Test.YteaaijhppmkfeaaGreatDoorRJE
import Derived.Laws.Bits64b
import Derived.Deep.QuietTactic
import Derived.BigQuiet
import Derived.WalkSmall
import Derived.Test.YteaaijhppmkfeaaGreatDoorRJH
/- strings.Builder: what is written behind, what is told at the end. -/
namespace Go.Proofs.YteaaijhppmkfeaaGreatDoor
open Go.RowKit
def Bd (B b : Nat) (l : List UInt8) (w : World) : Prop := Lib.IsBuilder 88 5 B b (cB l) w
theorem str_cells (s : ByteArray) : Lib.strCells s = cB (bts s) := rfl
theorem bd_new (w : World) : Bd w.heap.size w.heap.size [] (w.alloc (.cells #[.pointer none, .slice none 0 0] 88)) := Lib.fresh_isBuilder 88 5 w
theorem at_later {B b : Nat} {p : Value} {bs : List Value} {w w' : World} (h : Lib.BuilderAt 88 5 B b p bs w) (hb : Below w.heap.size w w') : Lib.BuilderAt 88 5 B b p bs w' := by
 obtain ⟨hB, v, hbk, hown, hne⟩ := h
 have hlt := Lib.BuilderAt.lt ⟨hB, v, hbk, hown, hne⟩
 exact ⟨hB, v, (hb.block b hlt).trans hbk, World.ownsRow.kept hown (grown_below hb none) (by cases v.ownBlock <;> simp), hne⟩
theorem Bd.later {B b : Nat} {l : List UInt8} {w w' : World} (h : Bd B b l w) (hb : Below w.heap.size w w') : Bd B b l w' := h.elim (fun h => .inl (at_later h hb)) (fun h => .inr (at_later h hb))
theorem size46 : (Tryz.prog.info? 88).map (·.size) = some 2 := by kernel_rfl
theorem lies46 : liesAt Tryz.prog Tryz.prog.depth 88 (2 / Tryz.prog.cellsOf 88) 0 88 1 = true := by kernel_rfl
def Kpt (b : Nat) (w w' : World) : Prop := ∀ j cs T fz, w.heap[j]? = some (.cells cs T fz) → T ≠ 5 → j ≠ b → w'.heap[j]? = some (.cells cs T fz)
theorem kpt_refl (b : Nat) (w : World) : Kpt b w w := fun _ _ _ _ h _ _ => h
theorem Kpt.trans {b : Nat} {u v w : World} (h : Kpt b u v) (k : Kpt b v w) : Kpt b u w := fun j cs T fz h0 h1 h2 => k j cs T fz (h j cs T fz h0 h1 h2) h1 h2
theorem Kpt.set {b i : Nat} {w w' : World} (h : Kpt b w w') (v : Value) : Kpt b w (w'.setCell ⟨b, i, none⟩ v) := fun j cs T fz h0 h1 h2 => (Below.heap_setCell w' ⟨b, i, none⟩ v j h2).trans (h j cs T fz h0 h1 h2)
theorem Kpt.alloc {b : Nat} {w w' : World} (h : Kpt b w w') (o : Obj) : Kpt b w (w'.alloc o) := fun j cs T fz h0 h1 h2 => by
 have := h j cs T fz h0 h1 h2
 exact (Below.heap_alloc w' o j (Array.getElem?_eq_some_iff.1 this).1).trans this
theorem Kpt.grown {b B k : Nat} {w w1 w2 : World} {v : Value} {xs : List Value} (h : Kpt b w w1) (ho : w1.ownsRow B 5 1 v k xs) (hg : w1.grownBy w2 v.ownBlock) : Kpt b w w2 := fun j cs T fz h0 h1 h2 => by
 have h3 := h j cs T fz h0 h1 h2
 exact (hg.block j (Array.getElem?_eq_some_iff.1 h3).1 (not_row h3 h1 ho)).trans h3
theorem Kpt.later {b : Nat} {w w1 w2 : World} (h : Kpt b w w1) (hb : Below w1.heap.size w1 w2) : Kpt b w w2 := fun j cs T fz h0 h1 h2 => by
 have h3 := h j cs T fz h0 h1 h2
 exact (hb.block j (Array.getElem?_eq_some_iff.1 h3).1).trans h3
set_option maxHeartbeats 1000000 in
set_option maxRecDepth 100000 in
theorem copy_k (B b : Nat) (l : List UInt8) (w : World) (h : Bd B b l w) : Calls Tryz.prog 125 #[.pointer (some ⟨b, 0, none⟩)] w fun e w' => e = .returned (.tuple #[]) ∧ Lib.BuilderAt 88 5 B b (.pointer (some ⟨b, 0, none⟩)) (cB l) w' ∧ Below B w w' ∧ Kpt b w w' := by
 obtain ⟨j, hj, hjs⟩ := Option.map_eq_some_iff.1 size46
 rcases h with h | h
 · have h0 := h.cell0
   have hf := h.frozen0
   have hsh := h.shape
   have r1 := Lib.run_to_unsafe (P := Tryz.prog) w ⟨b, 0, none⟩ Tryz.underlying86 Tryz.underlying197 hj (by rw [hjs]; decide) hsh (Nat.zero_lt_succ 1)
   have r2 := Lib.run_from_unsafe (P := Tryz.prog) w ⟨b, 0, none⟩ Tryz.underlying197 Tryz.underlying86 hj hsh lies46
   have h2 := h.used (.pointer (some ⟨b, 0, none⟩))
   have hb := (Below.refl B w).setCell (p := ⟨b, 0, none⟩) h.1 (.pointer (some ⟨b, 0, none⟩))
   go_enter Tryz.func125, Tryz.ntmps125
   go_wp2
   rw [run_callFunc_extern Tryz.func163 (by kernel_rfl) (by kernel_rfl) (by kernel_rfl) (e := Extern.AbiNoEscape.same) (by kernel_rfl), Lib.run_noEscape]
   simp only [Result.andThen]
   rw [Oper.upon_value]
   go_wp2
   go_end0
   exact ⟨rfl, h2, hb, (kpt_refl b w).set _⟩
 · have h0 := h.cell0
   have r3 := Lib.run_neq_ptr_same (P := Tryz.prog) w ⟨b, 0, none⟩ Tryz.underlying86 hj
   go_enter Tryz.func125, Tryz.ntmps125
   go_wp2
   go_end0
   exact ⟨rfl, h, Below.refl _ _, kpt_refl _ _⟩
end Go.Proofs.YteaaijhppmkfeaaGreatDoor
/- strings.Builder: WriteByte, WriteString, String; quoted of lex. -/
namespace Go.Proofs.YteaaijhppmkfeaaGreatDoor
open Go.RowKit
theorem slice_of {w : World} {B : Nat} {e : TypeId} {v : Value} {vs : List Value} (h : Own w B e v vs) : ∃ ao n cap, v = .slice ao n cap := by
 rcases h.2 with ⟨hv, _⟩ | ⟨g, cap, cur, hv, _⟩
 · exact ⟨_, _, _, hv⟩
 · exact ⟨_, _, _, hv⟩
set_option maxHeartbeats 2000000 in
set_option maxRecDepth 100000 in
theorem wbyte_k (B b : Nat) (l : List UInt8) (c : UInt8) (w : World) (h : Bd B b l w) (hl : l.length ≤ 9000000) (hBw : B ≤ w.heap.size) : Calls Tryz.prog 123 #[.pointer (some ⟨b, 0, none⟩), U8 c] w fun e w' => e = .returned .nilIface ∧ Bd B b (l ++ [c]) w' ∧ Below B w w' ∧ Kpt b w w' := by
 have hcc := copy_k B b l w h
 unfold U8
 go_enter Tryz.func123, Tryz.ntmps123
 go_wp2_with fail
 refine hcc.mono ?_
 rintro e w1 ⟨rfl, h1, hb1, hk1⟩
 have hlt := h1.lt
 obtain ⟨hB, v, hbk, hown, hne⟩ := h1
 have ho : Own w1 B 5 v (cB l) := hown
 have c1 : w1.cell? ⟨b, 1, none⟩ = some v := by rw [Lib.cell_of_heap hbk]; rfl
 have hsz := hb1.size
 clear hcc h
 go_wp2_with (first
   | (at_builtin; refine wpl_appg Tryz.underlying41 info5 rfl (by decide) rfl _ _ rfl B _ (cB l) (some ⟨w1.heap.size, 0, none⟩) [.int .u8 (c.toNat : Int)] 1 1 rfl rfl rfl (ho.later ((Below.refl _ _).alloc (Nat.le_refl _) _)) (by have := hsz; simp; omega) (rd_new _ _ _ _ _ rfl) (by simp [Value.oneCell']) (fun e => by cases e) (by rw [cB_length]; simp; omega) ?_; intro v3 w3 hv3 hb3 hg3; (have hb2 : w3.heap[b]? = some (.cells #[.pointer (some ⟨b, 0, none⟩), v] 88 (0, 0)) := (by rw [hg3.block b (by simp; omega) (fun e => hne e.symm), Lib.alloc_old w1 _ b hlt]; exact hbk)); (have d1 : w3.cell? ⟨b, 1, none⟩ = some v := (by rw [Lib.cell_of_heap hb2]; rfl)); (have f1 : w3.frozen? ⟨b, 1, none⟩ = false := Lib.frozen_of_heap hb2 1); obtain ⟨ao, n', cap, rfl⟩ := slice_of hv3))
 go_ret
 have hB3 : Below B w w3 := (hb1.alloc (by omega) _).trans hb3
 refine ⟨rfl, .inr (Lib.BuilderAt.put (T := 88) (e := 5) hB hb2 (bs' := cB (l ++ [c])) ?_ (by decide)), hB3.setCell (p := ⟨b, 1, none⟩) hB _, ((hk1.alloc _).grown (ho.later ((Below.refl _ _).alloc (Nat.le_refl _) _)) hg3).set _⟩
 rw [cB_append]
 exact hv3
set_option maxHeartbeats 2000000 in
set_option maxRecDepth 100000 in
theorem wstr_k (B b : Nat) (l : List UInt8) (s : ByteArray) (w : World) (h : Bd B b l w) (hl : l.length ≤ 9000000) (hs : s.size ≤ 9000000) (hBw : B ≤ w.heap.size) : Calls Tryz.prog 87 #[.pointer (some ⟨b, 0, none⟩), .string s] w fun e w' => e = .returned (.tuple #[.int .i64 s.size, .nilIface]) ∧ Bd B b (l ++ bts s) w' ∧ Below B w w' ∧ Kpt b w w' := by
 have hcc := copy_k B b l w h
 obtain ⟨i0, hi, hz0, hz1, hz2⟩ := info_parts info5
 go_enter Tryz.func87, Tryz.ntmps87
 go_wp2_with fail
 refine hcc.mono ?_
 rintro e w1 ⟨rfl, h1, hb1, hk1⟩
 have hlt := h1.lt
 obtain ⟨hB, v, hbk, hown, hne⟩ := h1
 have hll := cB_length l
 have c1 : w1.cell? ⟨b, 1, none⟩ = some v := by rw [Lib.cell_of_heap hbk]; rfl
 have hsz := hb1.size
 clear hcc h
 go_wp2_with (first
   | (at_builtin; refine Lib.wpList_append_own_string _ rfl _ _ 41 9 rfl B 5 i0 Tryz.underlying41 Tryz.underlying9 hi hz0 hz1 hz2 _ _ _ rfl hown s rfl (by unfold maxLen; omega) (by omega) (by omega) ?_; intro v3 w3 hv3 hg3 _; (have hb2 : w3.heap[b]? = some (.cells #[.pointer (some ⟨b, 0, none⟩), v] 88 (0, 0)) := (by rw [hg3.block b hlt (fun e => hne e.symm)]; exact hbk)); (have d1 : w3.cell? ⟨b, 1, none⟩ = some v := (by rw [Lib.cell_of_heap hb2]; rfl)); (have f1 : w3.frozen? ⟨b, 1, none⟩ = false := Lib.frozen_of_heap hb2 1); (have ho3 : Own w3 B 5 v3 (cB (l ++ bts s)) := (by unfold Own; rw [cB_append, List.length_append, ← str_cells, Lib.strCells_length]; exact hv3)); obtain ⟨ao, n', cap, rfl⟩ := slice_of ho3))
 go_ret2
 refine ⟨rfl, .inr (Lib.BuilderAt.put (T := 88) (e := 5) hB hb2 (bs' := cB (l ++ bts s)) ho3 (by decide)), (hb1.grown hg3 (by omega) (fun k hk => (hown.lt k hk).1)).setCell (p := ⟨b, 1, none⟩) hB _, (hk1.grown hown hg3).set _⟩
theorem wbyte_any (B b : Nat) (l : List UInt8) (c : UInt8) (w : World) (h : Bd B b l w) (hl : l.length ≤ 9000000) (hBw : B ≤ w.heap.size) : Calls Tryz.prog 123 #[.pointer (some ⟨b, 0, none⟩), U8 c] w fun e w' => e = .returned .nilIface ∧ Bd B b (l ++ [c]) w' ∧ Below B w w' :=
 (wbyte_k B b l c w h hl hBw).mono fun _ _ h => ⟨h.1, h.2.1, h.2.2.1⟩
theorem wstr_any (B b : Nat) (l : List UInt8) (s : ByteArray) (w : World) (h : Bd B b l w) (hl : l.length ≤ 9000000) (hs : s.size ≤ 9000000) (hBw : B ≤ w.heap.size) : Calls Tryz.prog 87 #[.pointer (some ⟨b, 0, none⟩), .string s] w fun e w' => e = .returned (.tuple #[.int .i64 s.size, .nilIface]) ∧ Bd B b (l ++ bts s) w' ∧ Below B w w' :=
 (wstr_k B b l s w h hl hs hBw).mono fun _ _ h => ⟨h.1, h.2.1, h.2.2.1⟩
theorem bstr_any (B b : Nat) (l : List UInt8) (w : World) (h : Bd B b l w) (hBw : B ≤ w.heap.size) : Calls Tryz.prog 55 #[.pointer (some ⟨b, 0, none⟩)] w fun e w' => e = .returned (.string ⟨l.toArray⟩) ∧ Below B w w' := Builder_String_any B b l w h hBw
end Go.Proofs.YteaaijhppmkfeaaGreatDoor
/- The reference's Code and Quote. -/
namespace Go.Proofs.YteaaijhppmkfeaaGreatDoor
open Go.RowKit
theorem cat_eq (a b : List UInt8) : (⟨a.toArray⟩ : ByteArray) ++ ⟨b.toArray⟩ = ⟨(a ++ b).toArray⟩ := by
 apply ByteArray.ext
 simp
theorem hex_ext : ∀ d, d < 16 → ByteArray.extract ⟨#[48, 49, 50, 51, 52, 53, 54, 55, 56, 57, 65, 66, 67, 68, 69, 70]⟩ d (d + 1) = ⟨[X.hexc d].toArray⟩ := by
 intro d hd
 have h : d = 0 ∨ d = 1 ∨ d = 2 ∨ d = 3 ∨ d = 4 ∨ d = 5 ∨ d = 6 ∨ d = 7 ∨ d = 8 ∨ d = 9 ∨ d = 10 ∨ d = 11 ∨ d = 12 ∨ d = 13 ∨ d = 14 ∨ d = 15 := by omega
 apply ByteArray.ext
 rcases h with rfl | rfl | rfl | rfl | rfl | rfl | rfl | rfl | rfl | rfl | rfl | rfl | rfl | rfl | rfl | rfl <;> decide
theorem quoteB_app : ∀ (a b : List UInt8), X.quoteB (a ++ b) = X.quoteB a ++ X.quoteB b
 | [], b => rfl
 | c :: a, b => by
   have ih := quoteB_app a b
   by_cases h : c = 34 ∨ c = 92
   · simp only [List.cons_append, X.quoteB, if_pos h, ih]
   · simp only [List.cons_append, X.quoteB, if_neg h, ih]
set_option maxRecDepth 100000 in
set_option maxHeartbeats 4000000 in
theorem code_any (r : Int) (h0 : 0 ≤ r) (h1 : r ≤ 2147483647) (w : World) : Calls Tryz.prog 89 #[.int .i32 r] w fun e w' => e = .returned (.string ⟨(X.codeB r.toNat).toArray⟩) ∧ w' = w := by
 have hL := (X.hexd_len 7 r.toNat (by omega)).2
 go_enter Tryz.func89, Tryz.ntmps89
 go_wp2
 go_loopw [0, 4] (fun v u wr => ∃ (m : Nat) (o : List UInt8), v = .int .i32 (m : Int) ∧ u = .string ⟨o.toArray⟩ ∧ m ≤ 2147483647 ∧ Hid (X.hexd r.toNat = X.hexd m ++ o) ∧ wr = w) (fun v _ _ => (intOf v).toNat)
 case atStart => exact ⟨r.toNat, [], by rw [Int.toNat_of_nonneg h0], rfl, by omega, hide (by simp), by first | rfl | trivial⟩
 case round =>
   obtain ⟨m, o, rfl, rfl, hm, HO, rfl⟩ := hrel
   have hol : o.length ≤ 8 := by have := congrArg List.length HO.out; rw [List.length_append] at this; omega
   have hx := hex_ext (m % 16) (by omega)
   have hc := cat_eq [X.hexc (m % 16)] o
   have HC := hide (rfl : X.hexc (m % 16) = X.hexc (m % 16))
   obtain ⟨c, hcc⟩ : ∃ c, X.hexc (m % 16) = c := ⟨_, rfl⟩
   have HCC := hide hcc
   rw [hcc] at hx hc
   clear hcc HC
   by_cases h16 : m < 16
   · have he : ((m : Int) / 16 == 0) = true := by simp; omega
     have HF : Hid (X.codeB r.toNat = 39 :: 92 :: 117 :: 123 :: (c :: o ++ [125])) := hide (by
       unfold X.codeB
       rw [HO.out, X.hexd_small h16, ← HCC.out, Nat.mod_eq_of_lt h16]
       rfl)
     clear HO
     go_wp2
     go_ret
     refine ⟨?_, rfl⟩
     rw [HF.out]
     show Ending.returned (Value.string ((⟨[39, 92, 117, 123].toArray⟩ : ByteArray) ++ ⟨(c :: o).toArray⟩ ++ ⟨[125].toArray⟩)) = _
     rw [cat_eq, cat_eq]
     rfl
   · have he : ((m : Int) / 16 == 0) = false := by rw [beq_eq_false_iff_ne]; omega
     have HF : Hid (X.hexd r.toNat = X.hexd (m / 16) ++ (c :: o)) := hide (by
       rw [HO.out, X.hexd_big h16, HCC.out]
       simp)
     clear HO
     go_wp2
     exact ⟨⟨m / 16, c :: o, by simp, rfl, by omega, HF, trivial⟩, by simp [intOf]; omega⟩
end Go.Proofs.YteaaijhppmkfeaaGreatDoor
/- quoted of lex. -/
namespace Go.Proofs.YteaaijhppmkfeaaGreatDoor
open Go.RowKit
set_option maxRecDepth 100000 in
set_option maxHeartbeats 4000000 in
theorem quoted_any (s : ByteArray) (hs : s.size ≤ 100000) (w : World) : Calls Tryz.prog 205 #[.string s] w fun e w' => e = .returned (.string ⟨(X.quoteB (bts s)).toArray⟩) ∧ Below w.heap.size w w' := by
 have hB0 := al1 w (.cells #[.pointer none, .slice none 0 0] 88)
 have hbd := bd_new w
 go_enter Tryz.func205, Tryz.ntmps205
 go_wp2
 go_loopw [7] (fun u wr => ∃ (i : Nat) (o : List UInt8), u = .int .i64 (i : Int) ∧ i ≤ s.size ∧ o.length ≤ 2 * i ∧ Hid (o = X.quoteB ((bts s).take i)) ∧ Bd w.heap.size w.heap.size o wr ∧ Below w.heap.size w wr) (fun u _ => s.size - (intOf u).toNat)
 case atStart => exact ⟨0, [], rfl, Nat.zero_le _, by simp, hide rfl, hbd, hB0⟩
 case round =>
   obtain ⟨i, o, rfl, hi, hol, HO, hB, hb⟩ := hrel
   by_cases hlt : i < s.size
   · have hl : i < (bts s).length := hlt
     have hx := fun j hj h => idx_at (s := s) hl j hj h
     have HQ : Hid (X.quoteB ((bts s).take (i + 1)) = o ++ (if (bts s)[i] = 34 ∨ (bts s)[i] = 92 then [92, (bts s)[i]] else [(bts s)[i]])) := hide (by
       rw [HO.out, take_snoc0 hl, quoteB_app]
       congr 1)
     generalize (bts s)[i] = c at *
     have hx2 : ∀ h, s[i]'h = c := fun h => hx (i : Int) rfl h
     clear hx
     have e34 : ((c.toNat : Int) == 34) = decide (c = 34) := u8_eq c 34
     have e92 : ((c.toNat : Int) == 92) = decide (c = 92) := u8_eq c 92
     have hw1 := wbyte_any w.heap.size w.heap.size o 92 wr hB (by omega) hb.size
     rw [show U8 92 = .int .u8 92 from rfl] at hw1
     by_cases hesc : c = 34 ∨ c = 92
     · rw [if_pos hesc] at HQ
       have hcase : ((c.toNat : Int) == 34) = true ∨ (((c.toNat : Int) == 34) = false ∧ ((c.toNat : Int) == 92) = true) := by
         rw [e34, e92]
         by_cases h : c = 34
         · exact .inl (decide_eq_true h)
         · exact .inr ⟨decide_eq_false h, decide_eq_true (hesc.resolve_left h)⟩
       clear e34 e92 hesc HO
       rcases hcase with e34 | ⟨e34, e92⟩
       all_goals
         go_wp2_with fail
         refine hw1.mono ?_
         rintro e w1 ⟨rfl, hB1, hb1⟩
         have hbb := hb.trans hb1
         have hw2 := wbyte_any w.heap.size w.heap.size (o ++ [92]) c w1 hB1 (by simp; omega) hbb.size
         unfold U8 at hw2
         go_wp2_with fail
         refine hw2.mono ?_
         rintro e w2 ⟨rfl, hB2, hb2⟩
         clear hw1 hw2
         go_wp2
         go_roundw
         case rel => exact ⟨i + 1, o ++ [92] ++ [c], by go_num, by omega, by simp; omega, hide (by rw [HQ.out]; simp), hB2, hbb.trans hb2⟩
         case measure => simp [intOf]; omega
     · rw [if_neg hesc] at HQ
       rw [decide_eq_false (fun h => hesc (.inl h))] at e34
       rw [decide_eq_false (fun h => hesc (.inr h))] at e92
       clear hesc HO hw1
       have hw2 := wbyte_any w.heap.size w.heap.size o c wr hB (by omega) hb.size
       unfold U8 at hw2
       go_wp2_with fail
       refine hw2.mono ?_
       rintro e w2 ⟨rfl, hB2, hb2⟩
       clear hw2
       go_wp2
       go_roundw
       case rel => exact ⟨i + 1, o ++ [c], by go_num, by omega, by simp; omega, hide HQ.out.symm, hB2, hb.trans hb2⟩
       case measure => simp [intOf]; omega
   · have HE : Hid (X.quoteB (bts s) = o) := hide (by
       rw [HO.out, List.take_of_length_le (by rw [bts_len]; omega)])
     clear HO
     have hst := bstr_any w.heap.size w.heap.size o wr hB hb.size
     go_wp2_with fail
     refine hst.mono ?_
     rintro e w1 ⟨rfl, hb1⟩
     go_wp2
     go_ret
     exact ⟨by rw [HE.out]; rfl, hb.trans hb1⟩
end Go.Proofs.YteaaijhppmkfeaaGreatDoor
/- strconv.FormatInt at base 16. -/
namespace Go.Proofs.YteaaijhppmkfeaaGreatDoor
open Go.RowKit
def Deb (w : World) : Prop := w.cell? ⟨8, 15, none⟩ = some (.int .u8 4)
theorem Deb.later {w wx : World} (h : Deb w) (hb : Below w.heap.size w wx) : Deb wx := cell_later hb h
set_option maxHeartbeats 1000000 in
set_option maxRecDepth 100000 in
theorem tz64_any (w : World) (hd : Deb w) : Calls Tryz.prog 281 #[.int .u64 16] w fun e w' => e = .returned (.int .i64 4) ∧ w' = w := by
 have hc : w.cell? ⟨8, 15, none⟩ = some (.int .u8 4) := hd
 have hb : bits .and .u64 16 (IntKind.u64.wrap (-16)) = 16 := by kernel_rfl
 clear hd
 go_enter Tryz.func281, Tryz.ntmps281
 go_wp2
 go_ret
 exact ⟨rfl, rfl⟩
theorem tz_any (w : World) (hd : Deb w) : Calls Tryz.prog 274 #[.int .u64 16] w fun e w' => e = .returned (.int .i64 4) ∧ w' = w := by
 have h := tz64_any w hd
 clear hd
 go_enter Tryz.func274, Tryz.ntmps274
 go_wp2_with fail
 refine h.mono ?_
 rintro e w1 ⟨rfl, rfl⟩
 go_wp2
 go_ret
 exact ⟨rfl, rfl⟩
theorem pow_any (w : World) : Calls Tryz.prog 273 #[.int .i64 16] w fun e w' => e = .returned (.bool true) ∧ w' = w := by
 have hb : bits .and .i64 16 15 = 0 := by kernel_rfl
 go_enter Tryz.func273, Tryz.ntmps273
 go_wp2
 go_ret
 exact ⟨rfl, rfl⟩
def hexl (d : Nat) : UInt8 := if d < 10 then (48 + d).toUInt8 else (87 + d).toUInt8
def hexs (n : Nat) : List UInt8 := if _h : n < 16 then [hexl n] else hexs (n / 16) ++ [hexl (n % 16)]
termination_by n
decreasing_by omega
theorem hexs_small {n : Nat} (h : n < 16) : hexs n = [hexl n] := by rw [hexs, dif_pos h]
theorem hexs_big {n : Nat} (h : ¬ n < 16) : hexs n = hexs (n / 16) ++ [hexl (n % 16)] := by rw [hexs, dif_neg h]
theorem hexs_len : ∀ (k n : Nat), n < 16 ^ (k + 1) → (hexs n).length ≤ k + 1
 | 0, n, h => by rw [hexs_small (by simpa using h)]; simp
 | k + 1, n, h => by
   by_cases hn : n < 16
   · rw [hexs_small hn]; simp
   · rw [hexs_big hn, List.length_append, List.length_singleton]
     have := hexs_len k (n / 16) (by rw [Nat.pow_succ] at h; omega)
     omega
theorem digs_at : ∀ d, d < 16 → ∀ h, (⟨#[48, 49, 50, 51, 52, 53, 54, 55, 56, 57, 97, 98, 99, 100, 101, 102, 103, 104, 105, 106, 107, 108, 109, 110, 111, 112, 113, 114, 115, 116, 117, 118, 119, 120, 121, 122]⟩ : ByteArray)[d]'h = hexl d := by
 intro d hd
 have h : d = 0 ∨ d = 1 ∨ d = 2 ∨ d = 3 ∨ d = 4 ∨ d = 5 ∨ d = 6 ∨ d = 7 ∨ d = 8 ∨ d = 9 ∨ d = 10 ∨ d = 11 ∨ d = 12 ∨ d = 13 ∨ d = 14 ∨ d = 15 := by omega
 rcases h with rfl | rfl | rfl | rfl | rfl | rfl | rfl | rfl | rfl | rfl | rfl | rfl | rfl | rfl | rfl | rfl <;> intro h <;> rfl
theorem and15 (m : Nat) (h : m < 18446744073709551616) : bits .and .u64 (m : Int) 15 = ((m % 16 : Nat) : Int) := by
 have := bits_and_u64_nat m 15 h (by decide)
 rw [show ((15 : Nat) : Int) = 15 from rfl] at this
 rw [this]
 congr 1
 exact Nat.and_two_pow_sub_one_eq_mod m 4
theorem arr_get {wr : World} {B : Nat} {p q : List Value} {x : Value} {T : TypeId} (h : wr.heap[B]? = some (.cells (p ++ x :: q).toArray T)) : wr.cell? ⟨B, p.length, none⟩ = some x := by simp [World.cell?, h]
theorem arr_set {wr : World} {B : Nat} {p q : List Value} {x : Value} {T : TypeId} (h : wr.heap[B]? = some (.cells (p ++ x :: q).toArray T)) (v : Value) : (wr.setCell ⟨B, p.length, none⟩ v).heap[B]? = some (.cells (p ++ v :: q).toArray T) := by
 simp [World.setCell, Array.getElem?_modify, h]
theorem zero110 : Tryz.zeroCells302 = (List.replicate 65 (Value.int .u8 0)).toArray := by kernel_rfl
theorem snoc_of {α : Type} {l : List α} (h : l ≠ []) : ∃ p x, l = p ++ [x] := ⟨l.dropLast, l.getLast h, (List.dropLast_concat_getLast h).symm⟩
theorem len110 : Tryz.prog.arrayLen 302 = 65 := by kernel_rfl
theorem und110 : Tryz.prog.underlying 302 = some (.array (Tryz.prog.arrayLen 302) (Tryz.prog.elem 302)) := by kernel_rfl
theorem size110 (w : World) : (sizeOf (Tryz.prog.elem 302)).run Tryz.prog w = .ok 1 w := by kernel_rfl
theorem cut110 (B j : Nat) (hj : j < 65) (wx : World) : (Instr.sliceAt 302 (.pointer (some ⟨B, 0, none⟩)) (some (.int .i64 (j : Int))) none none).run Tryz.prog wx = .ok (.slice (some ⟨B, j, none⟩) (65 - j) (65 - j)) wx := by
 rw [run_sliceAt_array_l (P := Tryz.prog) wx 302 ⟨B, 0, none⟩ und110 .i64 (j : Int) (by omega) (by rw [len110]; omega), size110, len110]
 simp only [Result.andThen, slicedAt, Int.toNat_natCast]
 rw [if_neg (by omega), Nat.mul_one, adAdd, Nat.zero_add]
theorem rd_arr {w : World} {B : Nat} {p : List Value} {o : List UInt8} {T : TypeId} (h : w.heap[B]? = some (.cells (p ++ cB o).toArray T)) : Rd w (some ⟨B, p.length, none⟩) (cB o) := by
 intro i hi
 refine ⟨B, p.length, rfl, ?_⟩
 simp only [World.cell?, h]
 rw [List.getElem?_toArray, List.getElem?_append_right (by omega), Nat.add_sub_cancel_left, List.getElem?_eq_getElem hi]
 rfl
set_option maxRecDepth 100000 in
set_option maxHeartbeats 4000000 in
theorem fbits_any (n : Nat) (hn : n ≤ 2147483647) (w : World) (hd : Deb w) : Calls Tryz.prog 261 #[.slice none 0 0, .int .u64 (n : Int), .int .i64 16, .bool false, .bool false] w fun e w' => e = .returned (.tuple #[.slice none 0 0, .string ⟨(hexs n).toArray⟩]) ∧ Below w.heap.size w w' := by
 have hb0 := al1 w (.cells Tryz.zeroCells302 302)
 have hpw := pow_any (w.alloc (.cells Tryz.zeroCells302 302))
 have htz := tz_any (w.alloc (.cells Tryz.zeroCells302 302)) (hd.later hb0)
 have hr0 := heap_alloc_new w (.cells Tryz.zeroCells302 302)
 have hl8 := hexs_len 7 n (by omega)
 go_enter Tryz.func261, Tryz.ntmps261
 go_wp2_with fail
 refine hpw.mono ?_
 rintro e w1 ⟨rfl, rfl⟩
 go_wp2_with fail
 refine htz.mono ?_
 rintro e w1 ⟨rfl, rfl⟩
 obtain ⟨W, hW⟩ : ∃ W, w.alloc (.cells Tryz.zeroCells302 302) = W := ⟨_, rfl⟩
 rw [hW] at hb0 hr0 ⊢
 clear hW hpw htz
 go_wp2
 go_loopw [1, 13] (fun u v wr => ∃ (m k : Nat) (p : List Value) (o : List UInt8), u = .int .u64 (m : Int) ∧ v = .int .i64 (k : Int) ∧ m ≤ 2147483647 ∧ p.length = k ∧ k + o.length = 65 ∧ o.length ≤ 8 ∧ Hid (hexs n = hexs m ++ o) ∧ wr.heap[w.heap.size]? = some (.cells (p ++ cB o).toArray 302) ∧ Below w.heap.size w wr) (fun u _ _ => (intOf u).toNat)
 case atStart => exact ⟨n, 65, List.replicate 65 (Value.int .u8 0), [], rfl, rfl, hn, by simp, by simp, by simp, hide (by simp), by rw [hr0, zero110]; simp [cB], hb0⟩
 case round =>
   obtain ⟨m, k, p, o, rfl, rfl, hm, hpk, hko, ho8, HO, hr, hb⟩ := hrel
   have hpne : p ≠ [] := by intro e; rw [e] at hpk; simp at hpk; omega
   obtain ⟨p0, x, rfl⟩ := snoc_of hpne
   rw [List.length_append, List.length_singleton] at hpk
   rw [List.append_assoc, List.singleton_append] at hr
   have hc := arr_get hr
   have hf := frozen_row hr p0.length
   have hset := fun v => arr_set hr v
   obtain rfl : k = p0.length + 1 := by omega
   obtain ⟨j, hj⟩ : ∃ j, p0.length = j := ⟨_, rfl⟩
   rw [hj] at hc hf hset hko ⊢
   have hkk : ((j + 1 : Nat) : Int) - 1 = (j : Int) := by omega
   clear hpne hpk
   by_cases h16 : m < 16
   · have g1 : decide ((16 : Int) ≤ (m : Int)) = false := decide_eq_false (by omega)
     have HF : Hid (hexs n = hexl m :: o) := hide (by rw [HO.out, hexs_small h16]; rfl)
     have hx := digs_at m h16
     have hs := hset (U8 (hexl m))
     unfold U8 at hs
     clear HO hset
     generalize hexl m = c at *
     have hsl := cut110 w.heap.size j (by omega)
     have hrd : Rd (wr.setCell ⟨w.heap.size, j, none⟩ (.int .u8 (c.toNat : Int))) (some ⟨w.heap.size, j, none⟩) (cB (c :: o)) := by
       have := rd_arr (o := c :: o) (p := p0) hs
       rwa [hj] at this
     have hcv := conv_any _ _ _ (65 - j) hrd
     rw [show (c :: o).length = 65 - j by simp; omega] at hcv
     clear hs hr
     go_wp2
     go_ret2
     exact ⟨by rw [HF.out]; rfl, hb.setCell (p := ⟨w.heap.size, j, none⟩) (Nat.le_refl _) _⟩
   · have g1 : decide ((16 : Int) ≤ (m : Int)) = true := decide_eq_true (by omega)
     have hol : (hexs n).length = (hexs m).length + o.length := by rw [HO.out, List.length_append]
     have hm1 : 1 ≤ (hexs (m / 16)).length := by
       by_cases h : m / 16 < 16
       · rw [hexs_small h]; simp
       · rw [hexs_big h]; simp
     have HF : Hid (hexs n = hexs (m / 16) ++ (hexl (m % 16) :: o)) := hide (by rw [HO.out, hexs_big h16]; simp)
     have ho7 : o.length ≤ 7 := by
       rw [hexs_big h16, List.length_append, List.length_singleton] at hol
       omega
     have hba := and15 m (by omega)
     have hx := digs_at (m % 16) (by omega)
     have hs := hset (U8 (hexl (m % 16)))
     unfold U8 at hs
     clear HO hset hol hm1
     generalize hexl (m % 16) = c at *
     have hd16 : m % 16 < 16 := by omega
     generalize m % 16 = d at *
     clear hr
     go_wp2
     go_roundw
     case rel => exact ⟨m / 16, j, p0, c :: o, by simp, by simp, by omega, hj, by simp; omega, by simp; omega, HF, hs, hb.setCell (p := ⟨w.heap.size, j, none⟩) (Nat.le_refl _) _⟩
     case measure => simp [intOf]; omega
set_option maxHeartbeats 1000000 in
theorem fint_in (n : Nat) (hn : n ≤ 2147483647) (w : World) (hd : Deb w) : Calls Tryz.prog 242 #[.int .i64 (n : Int), .int .i64 16] w fun e w' => e = .returned (.string ⟨(hexs n).toArray⟩) ∧ Below w.heap.size w w' := by
 have h := fbits_any n hn w hd
 generalize hexs n = o at *
 clear hd
 go_enter Tryz.func242, Tryz.ntmps242
 go_wp2_with fail
 refine h.mono ?_
 rintro e w1 ⟨rfl, hb⟩
 go_wp2
 go_ret
 exact ⟨rfl, hb⟩
theorem fint_any (n : Nat) (hn : n ≤ 2147483647) (w : World) (hd : Deb w) : Calls Tryz.prog 222 #[.int .i64 (n : Int), .int .i64 16] w fun e w' => e = .returned (.string ⟨(hexs n).toArray⟩) ∧ Below w.heap.size w w' := by
 have h := fint_in n hn w hd
 generalize hexs n = o at *
 clear hd
 go_enter Tryz.func222, Tryz.ntmps222
 go_wp2_with fail
 refine h.mono ?_
 rintro e w1 ⟨rfl, hb⟩
 go_wp2
 go_ret
 exact ⟨rfl, hb⟩
end Go.Proofs.YteaaijhppmkfeaaGreatDoor
/- strings.Builder: Grow, of a builder that was never written. -/
namespace Go.Proofs.YteaaijhppmkfeaaGreatDoor
open Go.RowKit Go.Shelf
theorem Builder_Extra_241 : Builder.Extra Tryz.prog lays241_ren := {
 sizeBuilder := by kernel_rfl
 liesBuilder := by kernel_rfl
 t5 := Tryz.underlying5
 a5 := Tryz.isAgg5
 z5 := Tryz.sizeOf5
 v5 := Tryz.zeroValue5
 infoByte := by kernel_rfl
 cellsByte := by kernel_rfl
 sizeByte := by kernel_rfl
 neB5 := by decide }
theorem grow_any (B b n : Nat) (hn : n ≤ 9000000) (w : World) (hB : B ≤ b) (hw : B ≤ w.heap.size) (hbk : w.heap[b]? = some (.cells #[.pointer (some ⟨b, 0, none⟩), .slice none 0 0] 88 (0, 0))) :
   Calls Tryz.prog 252 #[.pointer (some ⟨b, 0, none⟩), .int .i64 (n : Int)] w fun e w' => e = .returned (.tuple #[]) ∧ Lib.BuilderAt 88 5 B b (.pointer (some ⟨b, 0, none⟩)) [] w' ∧ Below B w w' := by
 have := Any.Builder_grow_fresh lays241 Builder_Extra_241 B b n w hB hbk
 exact this hw (by omega)
theorem set_two {w : World} {b : Nat} {p v : Value} {T : TypeId} (h : w.heap[b]? = some (.cells #[p, v] T (0, 0))) (q : Value) : (w.setCell ⟨b, 0, none⟩ q).heap[b]? = some (.cells #[q, v] T (0, 0)) := by
 simp [World.setCell, Array.getElem?_modify, h]
set_option maxHeartbeats 1000000 in
set_option maxRecDepth 100000 in
theorem copy_fresh (b : Nat) (w : World) (h : w.heap[b]? = some (.cells #[.pointer none, .slice none 0 0] 88 (0, 0))) : Calls Tryz.prog 125 #[.pointer (some ⟨b, 0, none⟩)] w fun e w' => e = .returned (.tuple #[]) ∧ w' = w.setCell ⟨b, 0, none⟩ (.pointer (some ⟨b, 0, none⟩)) := by
 obtain ⟨j, hj, hjs⟩ := Option.map_eq_some_iff.1 size46
 have h0 : w.cell? ⟨b, 0, none⟩ = some (.pointer none) := by simp [World.cell?, h]
 have hf : w.frozen? ⟨b, 0, none⟩ = false := by simp [World.frozen?, h]
 have hsh : w.shape? b = some (88, 2) := by simp [World.shape?, h]
 have r1 := Lib.run_to_unsafe (P := Tryz.prog) w ⟨b, 0, none⟩ Tryz.underlying86 Tryz.underlying197 hj (by rw [hjs]; decide) hsh (Nat.zero_lt_succ 1)
 have r2 := Lib.run_from_unsafe (P := Tryz.prog) w ⟨b, 0, none⟩ Tryz.underlying197 Tryz.underlying86 hj hsh lies46
 clear h
 go_enter Tryz.func125, Tryz.ntmps125
 go_wp2
 rw [run_callFunc_extern Tryz.func163 (by kernel_rfl) (by kernel_rfl) (by kernel_rfl) (e := Extern.AbiNoEscape.same) (by kernel_rfl), Lib.run_noEscape]
 simp only [Result.andThen]
 rw [Oper.upon_value]
 go_wp2
 go_end0
 exact ⟨rfl, rfl⟩
set_option maxHeartbeats 1000000 in
set_option maxRecDepth 100000 in
theorem Grow_any (n : Nat) (h1 : 1 ≤ n) (hn : n ≤ 9000000) (w : World) : Calls Tryz.prog 239 #[.pointer (some ⟨w.heap.size, 0, none⟩), .int .i64 (n : Int)] (w.alloc (.cells #[.pointer none, .slice none 0 0] 88)) fun e w' => e = .returned (.tuple #[]) ∧ Bd w.heap.size w.heap.size [] w' ∧ Below w.heap.size w w' := by
 have hr0 := heap_alloc_new w (.cells #[.pointer none, .slice none 0 0] 88)
 have hcc := copy_fresh w.heap.size (w.alloc (.cells #[.pointer none, .slice none 0 0] 88)) hr0
 have hb0 := al1 w (.cells #[.pointer none, .slice none 0 0] 88)
 obtain ⟨W, hW⟩ : ∃ W, (w.alloc (.cells #[.pointer none, .slice none 0 0] 88)).setCell ⟨w.heap.size, 0, none⟩ (.pointer (some ⟨w.heap.size, 0, none⟩)) = W := ⟨_, rfl⟩
 have hbk : W.heap[w.heap.size]? = some (.cells #[.pointer (some ⟨w.heap.size, 0, none⟩), .slice none 0 0] 88 (0, 0)) := by
   rw [← hW]
   exact set_two hr0 _
 have hb1 : Below w.heap.size w W := by rw [← hW]; exact hb0.setCell (p := ⟨w.heap.size, 0, none⟩) (Nat.le_refl _) _
 rw [hW] at hcc
 clear hW
 have c1 : W.cell? ⟨w.heap.size, 1, none⟩ = some (.slice none 0 0) := by simp [World.cell?, hbk]
 have hg := fun q => grow_any w.heap.size w.heap.size n hn (W.drewN q) (Nat.le_refl _) hb1.size hbk
 obtain ⟨A, hA⟩ : ∃ A, w.alloc (.cells #[.pointer none, .slice none 0 0] 88) = A := ⟨_, rfl⟩
 rw [hA] at hcc ⊢
 clear hA hr0 hb0
 go_enter Tryz.func239, Tryz.ntmps239
 go_wp2_with fail
 refine hcc.mono ?_
 rintro e w1 ⟨rfl, rfl⟩
 go_wp2
 go_quiet (fail)
 go_wp2_with fail
 refine (hg _).mono ?_
 rintro e w2 ⟨rfl, h2, hb2⟩
 go_wp2
 go_end0
 exact ⟨rfl, .inr h2, (show Below w.heap.size w (World.drewN w1 nq) from ⟨hb1.os, hb1.tape, hb1.output, hb1.size, hb1.block⟩).trans hb2⟩
end Go.Proofs.YteaaijhppmkfeaaGreatDoor
/- strings.ToUpper of a text whose bytes are all below 128; hexText of lex. -/
namespace Go.Proofs.YteaaijhppmkfeaaGreatDoor
open Go.RowKit
def isLow (c : UInt8) : Bool := decide (97 ≤ c.toNat) && decide (c.toNat ≤ 122)
def up (c : UInt8) : UInt8 := if isLow c then (c.toNat - 32).toUInt8 else c
theorem up_low {c : UInt8} (h : isLow c = true) : (c.toNat : Int) - 32 = ((up c).toNat : Int) := by
 have hc := c.toNat_lt
 unfold up
 rw [if_pos h]
 simp only [isLow, Bool.and_eq_true, decide_eq_true_eq] at h
 simp
 omega
theorem map_same : ∀ (l : List UInt8), (∀ c ∈ l, isLow c = false) → l.map up = l
 | [], _ => rfl
 | c :: l, h => by
   rw [List.map_cons, map_same l (fun x hx => h x (by simp [hx]))]
   congr 1
   unfold up
   rw [if_neg (by rw [h c (by simp)]; decide)]
theorem up_step {l : List UInt8} {p i : Nat} (hpi : p ≤ i) (h : ∀ c ∈ (l.drop p).take (i - p), isLow c = false) : (l.take p).map up ++ (l.drop p).take (i - p) = (l.take i).map up := by
 have e : l.take i = l.take p ++ (l.drop p).take (i - p) := by
   rw [← List.take_add, Nat.add_sub_cancel' hpi]
 rw [e, List.map_append, map_same _ h]
set_option maxRecDepth 100000 in
set_option maxHeartbeats 600000 in
theorem upper_any (s : ByteArray) (hs : s.size ≤ 100000) (hasc : ∀ c ∈ bts s, c.toNat < 128) (w : World) : Calls Tryz.prog 221 #[.string s] w fun e w' => e = .returned (.string ⟨((bts s).map up).toArray⟩) ∧ Below w.heap.size w w' := by
 have HA := hide hasc
 clear hasc
 have hGr := fun h1 => Grow_any s.size h1 (by omega) w
 have HG := hide hGr
 clear hGr
 go_enter Tryz.func221, Tryz.ntmps221
 go_wp2
 go_loopw [3, 4, 5] (fun q h u wr => q = .bool true ∧ ∃ i : Nat, u = .int .i64 (i : Int) ∧ i ≤ s.size ∧ h = .bool (((bts s).take i).any isLow) ∧ wr = w) (fun _ _ u _ => s.size - (intOf u).toNat)
 case atStart => exact ⟨rfl, 0, rfl, Nat.zero_le _, rfl, by first | rfl | trivial⟩
 case round =>
   obtain ⟨rfl, i, rfl, hi, rfl, hwr⟩ := hrel
   obtain rfl := hwr.symm
   clear hwr
   by_cases hlt : i < s.size
   · have hl : i < (bts s).length := hlt
     have hx := fun j hj h => idx_at (s := s) hl j hj h
     have hc := HA.out ((bts s)[i]) (List.getElem_mem hl)
     have HT : Hid (((bts s).take (i + 1)).any isLow = (((bts s).take i).any isLow || isLow (bts s)[i])) := hide (by rw [take_snoc0 hl, List.any_append, List.any_cons, List.any_nil, Bool.or_false])
     generalize (bts s)[i] = c at *
     have hx2 : ∀ h, s[i]'h = c := fun h => hx (i : Int) rfl h
     clear hx
     have g1 : decide ((128 : Int) ≤ (c.toNat : Int)) = false := decide_eq_false (by omega)
     generalize ((bts s).take i).any isLow = b at *
     cases b with
     | true =>
       have HT2 : Hid (((bts s).take (i + 1)).any isLow = true) := hide (by rw [HT.out]; rfl)
       clear HT
       go_wp2
       go_roundw
       case rel => exact ⟨rfl, i + 1, by go_num, by omega, by rw [HT2.out], by first | rfl | trivial⟩
       case measure => simp [intOf]; omega
     | false =>
       by_cases h97 : 97 ≤ c.toNat
       · have g2 : decide ((97 : Int) ≤ (c.toNat : Int)) = true := decide_eq_true (by omega)
         have g3 : decide ((c.toNat : Int) ≤ 122) = isLow c := by
           unfold isLow
           rw [decide_eq_true h97, Bool.true_and]
           exact decide_eq_decide.2 (by omega)
         have HT2 : Hid (((bts s).take (i + 1)).any isLow = isLow c) := hide (by rw [HT.out]; rfl)
         clear HT
         generalize isLow c = lo at *
         go_wp2
         go_roundw
         case rel => exact ⟨rfl, i + 1, by go_num, by omega, by rw [HT2.out], by first | rfl | trivial⟩
         case measure => simp [intOf]; omega
       · have g2 : decide ((97 : Int) ≤ (c.toNat : Int)) = false := decide_eq_false (by omega)
         have HT2 : Hid (((bts s).take (i + 1)).any isLow = false) := hide (by rw [HT.out]; simp [isLow]; omega)
         clear HT
         go_wp2
         go_roundw
         case rel => exact ⟨rfl, i + 1, by go_num, by omega, by rw [HT2.out], by first | rfl | trivial⟩
         case measure => simp [intOf]; omega
   · obtain rfl : i = s.size := by omega
     have hall : (bts s).take s.size = bts s := List.take_of_length_le (Nat.le_refl _)
     rw [hall]
     clear hall
     cases hany : (bts s).any isLow with
     | false =>
       have HE : Hid ((bts s).map up = bts s) := hide (map_same _ (fun c hc => by
         rw [List.any_eq_false] at hany
         simpa using hany c hc))
       clear HA HG hany
       go_wp2
       go_ret
       exact ⟨by rw [HE.out]; rfl, Below.refl _ _⟩
     | true =>
       have h1 : 1 ≤ s.size := by
         cases hb : bts s with
         | nil => rw [hb] at hany; cases hany
         | cons _ _ =>
           have := congrArg List.length hb
           rw [bts_len, List.length_cons] at this
           omega
       have hg := HG.out h1
       clear HA HG hany
       go_wp2_with fail
       refine hg.mono ?_
       rintro e w1 ⟨rfl, hB, hb⟩
       clear hg
       go_wp2
       go_loopw [8, 9] (fun q u wr => ∃ (p i : Nat), q = .int .i64 (p : Int) ∧ u = .int .i64 (i : Int) ∧ p ≤ i ∧ i ≤ s.size ∧ Hid (∀ c ∈ ((bts s).drop p).take (i - p), isLow c = false) ∧ Bd w.heap.size w.heap.size (((bts s).take p).map up) wr ∧ Below w.heap.size w wr) (fun _ u _ => s.size - (intOf u).toNat)
       case atStart => exact ⟨0, 0, rfl, rfl, Nat.le_refl _, Nat.zero_le _, hide (by simp), hB, hb⟩
       case round =>
         obtain ⟨p, i, rfl, rfl, hpi, hi, HN, hB, hb⟩ := hrel
         have HS := hide (up_step (l := bts s) hpi HN.out)
         by_cases hlt : i < s.size
         · have hl : i < (bts s).length := hlt
           have hx := fun j hj h => idx_at (s := s) hl j hj h
           have HT := hide (take_snoc0 hl)
           have HD : Hid (((bts s).drop p).take (i + 1 - p) = ((bts s).drop p).take (i - p) ++ [(bts s)[i]]) := hide (by
             have := take_snoc (l := bts s) (k := p) (n := i - p) (by omega)
             rw [show i - p + 1 = i + 1 - p by omega] at this
             rw [this]
             congr 2
             congr 1
             omega)
           generalize (bts s)[i] = c at *
           have hx2 : ∀ h, s[i]'h = c := fun h => hx (i : Int) rfl h
           clear hx
           cases hlow : isLow c with
           | false =>
             have hcase : decide ((97 : Int) ≤ (c.toNat : Int)) = false ∨ (decide ((97 : Int) ≤ (c.toNat : Int)) = true ∧ decide ((c.toNat : Int) ≤ 122) = false) := by
               simp only [isLow, Bool.and_eq_false_iff, decide_eq_false_iff_not] at hlow
               by_cases h : 97 ≤ c.toNat
               · exact .inr ⟨decide_eq_true (by omega), decide_eq_false (by omega)⟩
               · exact .inl (decide_eq_false (by omega))
             have HN2 : Hid (∀ x ∈ ((bts s).drop p).take (i + 1 - p), isLow x = false) := hide (fun x hx => by
               rw [HD.out] at hx
               exact (List.mem_append.1 hx).elim (HN.out x) (fun h => by simp at h; rw [h]; exact hlow))
             clear HN HS HT HD hlow
             rcases hcase with g1 | ⟨g1, g2⟩
             all_goals
               go_wp2
               go_roundw
               case rel => exact ⟨p, i + 1, rfl, by go_num, by omega, by omega, HN2, hB, hb⟩
               case measure => simp [intOf]; omega
           | true =>
             have hup := up_low hlow
             have hr : 97 ≤ c.toNat ∧ c.toNat ≤ 122 := by simpa [isLow] using hlow
             have g1 : decide ((97 : Int) ≤ (c.toNat : Int)) = true := decide_eq_true (by omega)
             have g2 : decide ((c.toNat : Int) ≤ 122) = true := decide_eq_true (by omega)
             have HM : Hid (((bts s).take (i + 1)).map up = ((bts s).take i).map up ++ [up c]) := hide (by rw [HT.out, List.map_append]; rfl)
             clear HN HT HD hlow
             by_cases hpl : p < i
             · have g3 : decide ((p : Int) < (i : Int)) = true := decide_eq_true (by omega)
               have hw1 := wstr_any w.heap.size w.heap.size (((bts s).take p).map up) (s.extract p i) wr hB (by rw [List.length_map, List.length_take]; omega) (by rw [ext_size _ _ _ hi]; omega) hb.size
               rw [bts_ext, HS.out] at hw1
               go_wp2_with fail
               refine hw1.mono ?_
               rintro e w2 ⟨rfl, hB2, hb2⟩
               have hbb := hb.trans hb2
               have hw2 := wbyte_any w.heap.size w.heap.size (((bts s).take i).map up) (up c) w2 hB2 (by rw [List.length_map, List.length_take]; omega) hbb.size
               unfold U8 at hw2
               rw [← HM.out] at hw2
               go_wp2_with fail
               refine hw2.mono ?_
               rintro e w3 ⟨rfl, hB3, hb3⟩
               clear hw1 hw2
               go_wp2
               go_roundw
               case rel => exact ⟨i + 1, i + 1, by go_num, by go_num, by omega, by omega, hide (by simp), hB3, hbb.trans hb3⟩
               case measure => simp [intOf]; omega
             · obtain rfl : p = i := by omega
               have g3 : decide ((p : Int) < (p : Int)) = false := decide_eq_false (by omega)
               have hw2 := wbyte_any w.heap.size w.heap.size (((bts s).take p).map up) (up c) wr hB (by rw [List.length_map, List.length_take]; omega) hb.size
               unfold U8 at hw2
               rw [← HM.out] at hw2
               go_wp2_with fail
               refine hw2.mono ?_
               rintro e w3 ⟨rfl, hB3, hb3⟩
               clear hw2
               go_wp2
               go_roundw
               case rel => exact ⟨p + 1, p + 1, by go_num, by go_num, by omega, by omega, hide (by simp), hB3, hb.trans hb3⟩
               case measure => simp [intOf]; omega
         · obtain rfl : i = s.size := by omega
           have HF : Hid (((bts s).take s.size).map up = (bts s).map up) := hide (by rw [show (bts s).take s.size = bts s from List.take_of_length_le (Nat.le_refl _)])
           by_cases hpl : p < s.size
           · have g3 : decide ((p : Int) < (s.size : Int)) = true := decide_eq_true (by omega)
             have hw1 := wstr_any w.heap.size w.heap.size (((bts s).take p).map up) (s.extract p s.size) wr hB (by rw [List.length_map, List.length_take]; omega) (by rw [extract_size]; omega) hb.size
             rw [bts_ext, HS.out, HF.out] at hw1
             clear HS HN
             go_wp2_with fail
             refine hw1.mono ?_
             rintro e w2 ⟨rfl, hB2, hb2⟩
             have hbb := hb.trans hb2
             have hst := bstr_any w.heap.size w.heap.size _ w2 hB2 hbb.size
             go_wp2_with fail
             refine hst.mono ?_
             rintro e w3 ⟨rfl, hb3⟩
             go_wp2
             go_ret
             exact ⟨rfl, hbb.trans hb3⟩
           · obtain rfl : p = s.size := by omega
             have g3 : decide ((s.size : Int) < (s.size : Int)) = false := decide_eq_false (by omega)
             rw [HF.out] at hB
             have hst := bstr_any w.heap.size w.heap.size _ wr hB hb.size
             clear HS HN
             go_wp2_with fail
             refine hst.mono ?_
             rintro e w3 ⟨rfl, hb3⟩
             go_wp2
             go_ret
             exact ⟨rfl, hb.trans hb3⟩
theorem up_hex : ∀ d, d < 16 → up (hexl d) = X.hexc d := by decide
theorem hexl_low : ∀ d, d < 16 → (hexl d).toNat < 128 := by decide
theorem hexs_up : ∀ n, (hexs n).map up = X.hexd n := by
 intro n
 induction n using Nat.strongRecOn with
 | _ n ih =>
   by_cases h : n < 16
   · rw [hexs_small h, X.hexd_small h, List.map_cons, up_hex n h]; rfl
   · rw [hexs_big h, X.hexd_big h, List.map_append, ih (n / 16) (by omega), List.map_cons, up_hex (n % 16) (by omega)]; rfl
theorem hexs_low : ∀ n, ∀ c ∈ hexs n, c.toNat < 128 := by
 intro n
 induction n using Nat.strongRecOn with
 | _ n ih =>
   intro c hc
   by_cases h : n < 16
   · rw [hexs_small h] at hc
     simp at hc
     rw [hc]
     exact hexl_low n h
   · rw [hexs_big h] at hc
     rcases List.mem_append.1 hc with hc | hc
     · exact ih (n / 16) (by omega) c hc
     · simp at hc
       rw [hc]
       exact hexl_low (n % 16) (by omega)
set_option maxHeartbeats 1000000 in
theorem hext_any (n : Nat) (hn : n ≤ 2147483647) (w : World) (hd : Deb w) : Calls Tryz.prog 206 #[.int .i32 (n : Int)] w fun e w' => e = .returned (.string ⟨(X.hexd n).toArray⟩) ∧ Below w.heap.size w w' := by
 have hf := fint_any n hn w hd
 have hu := fun W => upper_any ⟨(hexs n).toArray⟩ (by have := hexs_len 7 n (by omega); show (hexs n).toArray.size ≤ _; simp; omega) (hexs_low n) W
 rw [show (bts ⟨(hexs n).toArray⟩).map up = X.hexd n from hexs_up n] at hu
 generalize hexs n = o at *
 generalize X.hexd n = o2 at *
 clear hd
 go_enter Tryz.func206, Tryz.ntmps206
 go_wp2_with fail
 refine hf.mono ?_
 rintro e w1 ⟨rfl, hb1⟩
 go_wp2_with fail
 refine (hu w1).mono ?_
 rintro e w2 ⟨rfl, hb2⟩
 go_wp2
 go_ret
 exact ⟨rfl, nx hb1 hb2⟩
end Go.Proofs.YteaaijhppmkfeaaGreatDoor
/- printed and Print of lex. -/
namespace Go.Proofs.YteaaijhppmkfeaaGreatDoor
open Go.RowKit
def prn (t : X.Tk) : List UInt8 := if t.kind = 7 then [10] else (X.one t).getD []
theorem quoteB_len : ∀ (u : List UInt8), (X.quoteB u).length ≤ 2 * u.length
 | [] => by simp [X.quoteB]
 | c :: u => by
   have ih := quoteB_len u
   unfold X.quoteB
   split <;> simp <;> omega
def okP (t : X.Tk) : Prop := t.text.length ≤ 700 ∧ (t.kind = 4 → 0 ≤ t.r ∧ t.r ≤ 1114111)
set_option maxRecDepth 100000 in
set_option maxHeartbeats 600000 in
theorem printed_any (kind : Nat) (text : List UInt8) (r : Int) (k : Nat) (hk : 1 ≤ kind ∧ kind ≤ 8) (hok : okP ⟨kind, text, r⟩) (w : World) (hd : Deb w) : Calls Tryz.prog 187 #[.agg #[.int .i64 (kind : Int), .int .i64 (k : Int), .string ⟨text.toArray⟩, .int .i32 r]] w fun e w' => e = .returned (.string ⟨(prn ⟨kind, text, r⟩).toArray⟩) ∧ Below w.heap.size w w' := by
 obtain ⟨htl, hr⟩ := hok
 simp only at htl hr
 have hsz : (⟨text.toArray⟩ : ByteArray).size = text.length := by show text.toArray.size = _; simp
 have hr0 := heap_alloc_new w (.cells #[.int .i64 (kind : Int), .int .i64 (k : Int), .string ⟨text.toArray⟩, .int .i32 r] 77)
 have hb0 := al1 w (.cells #[.int .i64 (kind : Int), .int .i64 (k : Int), .string ⟨text.toArray⟩, .int .i32 r] 77)
 by_cases h7 : kind = 7
 · have HP : Hid (prn ⟨kind, text, r⟩ = [10]) := hide (by unfold prn; rw [if_pos h7])
   have e7 : ((kind : Int) == 7) = true := by rw [beq_iff_eq]; omega
   clear h7 hr hd
   go_enter Tryz.func187, Tryz.ntmps187
   go_wp2
   go_ret
   refine ⟨?_, al1 w _⟩
   rw [HP.out]
   rfl
 by_cases h1 : kind = 1
 · have HP : Hid (prn ⟨kind, text, r⟩ = [36] ++ text) := hide (by unfold prn; rw [if_neg h7]; unfold X.one; rw [if_pos h1]; rfl)
   have hc := cat_eq [36] text
   have e7 : ((kind : Int) == 7) = false := by rw [beq_eq_false_iff_ne]; omega
   have e1 : ((kind : Int) == 1) = true := by rw [beq_iff_eq]; omega
   clear h7 h1 hr hd
   go_enter Tryz.func187, Tryz.ntmps187
   go_wp2
   go_ret
   refine ⟨?_, al1 w _⟩
   rw [HP.out]
   rfl
 by_cases h2 : kind = 2
 · have HP : Hid (prn ⟨kind, text, r⟩ = [34] ++ X.quoteB text ++ [34]) := hide (by unfold prn; rw [if_neg h7]; unfold X.one; rw [if_neg h1, if_pos h2]; rfl)
   have hq := quoted_any ⟨text.toArray⟩ (by omega) (w.alloc (.cells #[.int .i64 (kind : Int), .int .i64 (k : Int), .string ⟨text.toArray⟩, .int .i32 r] 77))
   rw [show bts ⟨text.toArray⟩ = text from rfl] at hq
   have hql := quoteB_len text
   have hc1 := cat_eq [34] (X.quoteB text)
   have hc2 := cat_eq ([34] ++ X.quoteB text) [34]
   have e7 : ((kind : Int) == 7) = false := by rw [beq_eq_false_iff_ne]; omega
   have e1 : ((kind : Int) == 1) = false := by rw [beq_eq_false_iff_ne]; omega
   have e2 : ((kind : Int) == 2) = true := by rw [beq_iff_eq]; omega
   clear h7 h1 h2 hr hd
   generalize X.quoteB text = q at *
   go_enter Tryz.func187, Tryz.ntmps187
   go_wp2_with fail
   refine hq.mono ?_
   rintro e w1 ⟨rfl, hb1⟩
   have hbb := nx hb0 hb1
   clear hq
   go_wp2
   go_ret
   refine ⟨?_, hbb⟩
   rw [HP.out]
   rfl
 by_cases h4 : kind = 4
 · obtain ⟨hr1, hr2⟩ := hr h4
   obtain ⟨n, rfl⟩ := Int.eq_ofNat_of_zero_le hr1
   have HP : Hid (prn ⟨kind, text, (n : Int)⟩ = [39, 92, 117, 123] ++ X.hexd n ++ [125]) := hide (by
     unfold prn; rw [if_neg h7]; unfold X.one
     rw [if_neg h1, if_neg h2, if_neg (by simp only; omega), if_pos h4]
     simp only [Option.getD_some]
     unfold X.codeB
     rw [show (max 0 (min (n : Int) 1114111)).toNat = n by omega]
     rfl)
   have hx := hext_any n (by omega) (w.alloc (.cells #[.int .i64 (kind : Int), .int .i64 (k : Int), .string ⟨text.toArray⟩, .int .i32 (n : Int)] 77)) (hd.later hb0)
   have hxl := X.hexd_len 5 n (by omega)
   have hc1 := cat_eq [39, 92, 117, 123] (X.hexd n)
   have hc2 := cat_eq ([39, 92, 117, 123] ++ X.hexd n) [125]
   have e7 : ((kind : Int) == 7) = false := by rw [beq_eq_false_iff_ne]; omega
   have e1 : ((kind : Int) == 1) = false := by rw [beq_eq_false_iff_ne]; omega
   have e2 : ((kind : Int) == 2) = false := by rw [beq_eq_false_iff_ne]; omega
   have e4 : ((kind : Int) == 4) = true := by rw [beq_iff_eq]; omega
   clear h7 h1 h2 h4 hr hd
   generalize X.hexd n = q at *
   go_enter Tryz.func187, Tryz.ntmps187
   go_wp2_with fail
   refine hx.mono ?_
   rintro e w1 ⟨rfl, hb1⟩
   have hbb := nx hb0 hb1
   clear hx
   go_wp2
   go_ret
   refine ⟨?_, hbb⟩
   rw [HP.out]
   rfl
 by_cases h5 : kind = 5
 · have HP : Hid (prn ⟨kind, text, r⟩ = [123] ++ text ++ [125]) := hide (by unfold prn; rw [if_neg h7]; unfold X.one; rw [if_neg h1, if_neg h2, if_neg (by simp only; omega), if_neg h4, if_pos h5]; rfl)
   have hc1 := cat_eq [123] text
   have hc2 := cat_eq ([123] ++ text) [125]
   have e7 : ((kind : Int) == 7) = false := by rw [beq_eq_false_iff_ne]; omega
   have e1 : ((kind : Int) == 1) = false := by rw [beq_eq_false_iff_ne]; omega
   have e2 : ((kind : Int) == 2) = false := by rw [beq_eq_false_iff_ne]; omega
   have e4 : ((kind : Int) == 4) = false := by rw [beq_eq_false_iff_ne]; omega
   have e5 : ((kind : Int) == 5) = true := by rw [beq_iff_eq]; omega
   clear h7 h1 h2 h4 h5 hr hd
   go_enter Tryz.func187, Tryz.ntmps187
   go_wp2
   go_ret
   refine ⟨?_, al1 w _⟩
   rw [HP.out]
   rfl
 · have HP : Hid (prn ⟨kind, text, r⟩ = text) := hide (by unfold prn; rw [if_neg h7]; unfold X.one; rw [if_neg h1, if_neg h2, if_pos (by simp only; omega)]; rfl)
   have e7 : ((kind : Int) == 7) = false := by rw [beq_eq_false_iff_ne]; omega
   have e1 : ((kind : Int) == 1) = false := by rw [beq_eq_false_iff_ne]; omega
   have e2 : ((kind : Int) == 2) = false := by rw [beq_eq_false_iff_ne]; omega
   have e4 : ((kind : Int) == 4) = false := by rw [beq_eq_false_iff_ne]; omega
   have e5 : ((kind : Int) == 5) = false := by rw [beq_eq_false_iff_ne]; omega
   clear h7 h1 h2 h4 h5 hr hd
   go_enter Tryz.func187, Tryz.ntmps187
   go_wp2
   go_ret
   refine ⟨?_, al1 w _⟩
   rw [HP.out]
   rfl
end Go.Proofs.YteaaijhppmkfeaaGreatDoor
/- Print of lex. -/
namespace Go.Proofs.YteaaijhppmkfeaaGreatDoor
open Go.RowKit
theorem prn_len (t : X.Tk) (h : okP t) : (prn t).length ≤ 1410 := by
 obtain ⟨h1, h2⟩ := h
 unfold prn
 split
 · simp
 · unfold X.one
   have hq := quoteB_len t.text
   repeat' split
   all_goals simp
   all_goals try omega
   rename_i h4
   obtain ⟨h5, h6⟩ := h2 h4
   have := X.hexd_len 5 (max 0 (min t.r 1114111)).toNat (by omega)
   unfold X.codeB
   simp
   omega
def kindB (k : Nat) : Bool := decide (0 < k) && decide (k ≤ 8)
theorem kind_any (k : Nat) (w : World) : Calls Tryz.prog 186 #[.int .i64 (k : Int)] w fun e w' => e = .returned (.bool (kindB k)) ∧ w' = w := by
 by_cases h0 : 0 < k
 · have g1 : decide ((0 : Int) < (k : Int)) = true := decide_eq_true (by omega)
   have g2 : decide ((k : Int) ≤ 8) = kindB k := by
     unfold kindB
     rw [decide_eq_true h0, Bool.true_and]
     exact decide_eq_decide.2 (by omega)
   generalize kindB k = b at *
   go_enter Tryz.func186, Tryz.ntmps186
   go_wp2
   go_ret
   exact ⟨rfl, rfl⟩
 · have g1 : decide ((0 : Int) < (k : Int)) = false := decide_eq_false (by omega)
   have HK : Hid (kindB k = false) := hide (by unfold kindB; rw [decide_eq_false h0]; rfl)
   go_enter Tryz.func186, Tryz.ntmps186
   go_wp2
   go_ret
   exact ⟨by rw [HK.out]; rfl, rfl⟩
theorem Bd.lt {B b : Nat} {l : List UInt8} {w : World} (h : Bd B b l w) : b < w.heap.size := h.elim (fun h => h.lt) (fun h => h.lt)
theorem tailP_skip {b : Bool} {t : X.Tk} {ts : List X.Tk} (h : kindB t.kind = false) : X.tailP b (t :: ts) = X.tailP b ts := by
 have hk : t.kind = 0 ∨ 8 < t.kind := by
   simp only [kindB, Bool.and_eq_false_iff, decide_eq_false_iff_not] at h
   omega
 have ho : X.one t = none := by
   unfold X.one
   rw [if_neg (by omega), if_neg (by omega), if_neg (by omega), if_neg (by omega), if_neg (by omega)]
 conv => lhs; unfold X.tailP
 rw [if_neg (by omega), ho]
theorem tailP_line {b : Bool} {t : X.Tk} {ts : List X.Tk} (h : t.kind = 7) : X.tailP b (t :: ts) = prn t ++ X.tailP false ts := by
 conv => lhs; unfold X.tailP
 unfold prn
 rw [if_pos h, if_pos h]
 rfl
theorem tailP_one {b : Bool} {t : X.Tk} {ts : List X.Tk} (h : kindB t.kind = true) (h7 : t.kind ≠ 7) : X.tailP b (t :: ts) = (if b then 32 :: prn t else prn t) ++ X.tailP true ts := by
 have hk : 1 ≤ t.kind ∧ t.kind ≤ 8 := by
   simp only [kindB, Bool.and_eq_true, decide_eq_true_eq] at h
   omega
 conv => lhs; unfold X.tailP
 unfold prn
 rw [if_neg h7, if_neg h7]
 cases ho : X.one t with
 | none =>
   exfalso
   unfold X.one at ho
   repeat' split at ho
   all_goals first | (cases ho; done) | omega
 | some o => rfl
set_option maxRecDepth 100000 in
set_option maxHeartbeats 800000 in
theorem print_lex (ao : Option Addr) (cap : Nat) (l : List (X.Tk × Nat)) (hl : l.length ≤ 700) (hok : ∀ p ∈ l, okP p.1) (w : World) (hr : RdK w ao l) (hd : Deb w) : Calls Tryz.prog 162 #[.slice ao l.length cap] w fun e w' => e = .returned (.string ⟨(X.tailP false (l.map Prod.fst)).toArray⟩) ∧ Below w.heap.size w w' := by
 have hB0 := al1 w (.cells #[.pointer none, .slice none 0 0] 88)
 have hbd := bd_new w
 have HK := hide hok
 have HR := hide hr
 have HDb := hide hd
 clear hok hr hd
 go_enter Tryz.func162, Tryz.ntmps162
 go_wp2
 go_loopw [4, 9] (fun v u wr => ∃ (i : Nat) (o : List UInt8) (a : Nat) (b : Bool), u = .int .i64 (i : Int) ∧ v = .int .i64 (a : Int) ∧ i ≤ l.length ∧ o.length ≤ i * 1411 ∧ Hid (((a : Int) != 7) = b) ∧ Hid (X.tailP false (l.map Prod.fst) = o ++ X.tailP b ((l.drop i).map Prod.fst)) ∧ Bd w.heap.size w.heap.size o wr ∧ Below w.heap.size w wr) (fun _ u _ => l.length - (intOf u).toNat)
 case atStart => exact ⟨0, [], 7, false, rfl, rfl, Nat.zero_le _, by simp, hide rfl, hide rfl, hbd, hB0⟩
 case round =>
   obtain ⟨i, o, a, b, rfl, rfl, hi, hol, HAB, HO, hB, hb⟩ := hrel
   by_cases hlt : i < l.length
   · obtain ⟨bb, off, rfl, c0, c1, c2, c3⟩ := (HR.out.later hb) i hlt
     have hk1 := HK.out l[i] (List.getElem_mem hlt)
     have hdW := HDb.out.later hb
     have HDb2 := hide HDb.out
     have HD : Hid ((l.drop i).map Prod.fst = l[i].1 :: (l.drop (i + 1)).map Prod.fst) := hide (by rw [List.drop_eq_getElem_cons hlt]; rfl)
     generalize l[i] = q at *
     obtain ⟨⟨kind, text, r⟩, at_⟩ := q
     simp only at c0 c1 c2 c3 hk1 HD
     have hpl := prn_len _ hk1
     have hix := elemSize72
     have hkn := kind_any kind (wr.alloc (.cells #[.int .i64 (kind : Int), .int .i64 (at_ : Int), .string ⟨text.toArray⟩, .int .i32 r] 77))
     have hB1 := hB.later (al1 wr (.cells #[.int .i64 (kind : Int), .int .i64 (at_ : Int), .string ⟨text.toArray⟩, .int .i32 r] 77))
     have hb1 := hb.alloc hb.size (.cells #[.int .i64 (kind : Int), .int .i64 (at_ : Int), .string ⟨text.toArray⟩, .int .i32 r] 77)
     have hd1 := hdW.later (al1 wr (.cells #[.int .i64 (kind : Int), .int .i64 (at_ : Int), .string ⟨text.toArray⟩, .int .i32 r] 77))
     cases hkb : kindB kind with
     | false =>
       rw [hkb] at hkn
       have HO2 : Hid (X.tailP false (l.map Prod.fst) = o ++ X.tailP b ((l.drop (i + 1)).map Prod.fst)) := hide (by
         rw [HO.out, HD.out, tailP_skip hkb])
       clear HO HD HK HR HDb hkb
       go_wp2_with fail
       refine hkn.mono ?_
       rintro e w2 ⟨rfl, rfl⟩
       go_wp2
       go_roundw
       case rel => exact ⟨i + 1, o, a, b, by go_num, rfl, by omega, by omega, HAB, HO2, hB1, hb1⟩
       case measure => simp [intOf]; omega
     | true =>
       rw [hkb] at hkn
       have hk8 : 1 ≤ kind ∧ kind ≤ 8 := by
         simp only [kindB, Bool.and_eq_true, decide_eq_true_eq] at hkb
         omega
       have hpr0 := fun W hd => printed_any kind text r at_ hk8 hk1 W hd
       by_cases h7 : kind = 7
       · have n7 : ((kind : Int) != 7) = false := by rw [h7]; rfl
         have HO2 : Hid (X.tailP false (l.map Prod.fst) = o ++ (prn ⟨kind, text, r⟩ ++ X.tailP false ((l.drop (i + 1)).map Prod.fst))) := hide (by
           rw [HO.out, HD.out, tailP_line h7])
         clear HO HD HK HR HDb hkb h7
         have hx0 := heap_alloc_new wr (.cells #[.int .i64 (kind : Int), .int .i64 (at_ : Int), .string ⟨text.toArray⟩, .int .i32 r] 77)
         obtain ⟨W1, hW1⟩ : ∃ W1, wr.alloc (.cells #[.int .i64 (kind : Int), .int .i64 (at_ : Int), .string ⟨text.toArray⟩, .int .i32 r] 77) = W1 := ⟨_, rfl⟩
         rw [hW1] at hx0 hkn hB1 hb1 hd1
         obtain ⟨x0, x1, x2, x3⟩ := cells_four hx0
         have hpr := hpr0 W1 hd1
         clear hpr0
         cases b with
         | true =>
           have na := HAB.out
           go_wp2_with fail
           refine hkn.mono ?_
           rintro e w2 ⟨rfl, rfl⟩
           go_wp2_with fail
           refine hpr.mono ?_
           rintro e w3 ⟨rfl, hb3⟩
           have hB3 := hB1.later hb3
           have hbb3 := nx hb1 hb3
           have hws := wstr_k w.heap.size w.heap.size o ⟨(prn ⟨kind, text, r⟩).toArray⟩ w3 hB3 (by first | omega | (simp; omega)) (by show (prn ⟨kind, text, r⟩).toArray.size ≤ _; simp; omega) hbb3.size
           rw [show bts ⟨(prn ⟨kind, text, r⟩).toArray⟩ = prn ⟨kind, text, r⟩ from rfl] at hws
           have hx3 := (hb3.block wr.heap.size (Array.getElem?_eq_some_iff.1 hx0).1).trans hx0
           generalize prn ⟨kind, text, r⟩ = pq at *
           go_wp2_with fail
           refine hws.mono ?_
           rintro e w4 ⟨rfl, hB4, hb4, hk4⟩
           have hx4 := hk4 wr.heap.size _ _ _ hx3 (by decide) (by have := hb.size; have := hB.lt; omega)
           obtain ⟨y0, _, _, _⟩ := cells_four hx4
           clear hws hpr hkn
           go_wp2
           go_roundw
           case rel => exact ⟨i + 1, o ++ pq, kind, false, by go_num, rfl, by omega, by simp; omega, hide n7, hide (by rw [HO2.out]; simp), hB4, hbb3.trans hb4⟩
           case measure => simp [intOf]; omega
         | false =>
           have na := HAB.out
           go_wp2_with fail
           refine hkn.mono ?_
           rintro e w2 ⟨rfl, rfl⟩
           go_wp2_with fail
           refine hpr.mono ?_
           rintro e w3 ⟨rfl, hb3⟩
           have hB3 := hB1.later hb3
           have hbb3 := nx hb1 hb3
           have hws := wstr_k w.heap.size w.heap.size o ⟨(prn ⟨kind, text, r⟩).toArray⟩ w3 hB3 (by first | omega | (simp; omega)) (by show (prn ⟨kind, text, r⟩).toArray.size ≤ _; simp; omega) hbb3.size
           rw [show bts ⟨(prn ⟨kind, text, r⟩).toArray⟩ = prn ⟨kind, text, r⟩ from rfl] at hws
           have hx3 := (hb3.block wr.heap.size (Array.getElem?_eq_some_iff.1 hx0).1).trans hx0
           generalize prn ⟨kind, text, r⟩ = pq at *
           go_wp2_with fail
           refine hws.mono ?_
           rintro e w4 ⟨rfl, hB4, hb4, hk4⟩
           have hx4 := hk4 wr.heap.size _ _ _ hx3 (by decide) (by have := hb.size; have := hB.lt; omega)
           obtain ⟨y0, _, _, _⟩ := cells_four hx4
           clear hws hpr hkn
           go_wp2
           go_roundw
           case rel => exact ⟨i + 1, o ++ pq, kind, false, by go_num, rfl, by omega, by simp; omega, hide n7, hide (by rw [HO2.out]; simp), hB4, hbb3.trans hb4⟩
           case measure => simp [intOf]; omega
       · have n7 : ((kind : Int) != 7) = true := by simp; omega
         have HO2 : Hid (X.tailP false (l.map Prod.fst) = o ++ ((if b then 32 :: prn ⟨kind, text, r⟩ else prn ⟨kind, text, r⟩) ++ X.tailP true ((l.drop (i + 1)).map Prod.fst))) := hide (by
           rw [HO.out, HD.out, tailP_one hkb h7])
         clear HO HD HK HR HDb hkb h7
         have hx0 := heap_alloc_new wr (.cells #[.int .i64 (kind : Int), .int .i64 (at_ : Int), .string ⟨text.toArray⟩, .int .i32 r] 77)
         obtain ⟨W1, hW1⟩ : ∃ W1, wr.alloc (.cells #[.int .i64 (kind : Int), .int .i64 (at_ : Int), .string ⟨text.toArray⟩, .int .i32 r] 77) = W1 := ⟨_, rfl⟩
         rw [hW1] at hx0 hkn hB1 hb1 hd1
         obtain ⟨x0, x1, x2, x3⟩ := cells_four hx0
         cases b with
         | true =>
           have na := HAB.out
           rw [if_pos rfl] at HO2
           have hwb := wbyte_k w.heap.size w.heap.size o 32 W1 hB1 (by omega) hb1.size
           rw [show U8 32 = .int .u8 32 from rfl] at hwb
           go_wp2_with fail
           refine hkn.mono ?_
           rintro e w2 ⟨rfl, rfl⟩
           go_wp2_with fail
           refine hwb.mono ?_
           rintro e w5 ⟨rfl, hB5, hb5, hk5⟩
           have hx5 := hk5 wr.heap.size _ _ _ hx0 (by decide) (by have := hb.size; have := hB.lt; omega)
           obtain ⟨z0, z1, z2, z3⟩ := cells_four hx5
           have hbb5 := hb1.trans hb5
           have hpr := hpr0 w5 (HDb2.out.later hbb5)
           clear hpr0 hwb x0 x1 x2 x3
           go_wp2_with fail
           refine hpr.mono ?_
           rintro e w3 ⟨rfl, hb3⟩
           have hB3 := hB5.later hb3
           have hbb3 := nx hbb5 hb3
           have hws := wstr_k w.heap.size w.heap.size (o ++ [32]) ⟨(prn ⟨kind, text, r⟩).toArray⟩ w3 hB3 (by first | omega | (simp; omega)) (by show (prn ⟨kind, text, r⟩).toArray.size ≤ _; simp; omega) hbb3.size
           rw [show bts ⟨(prn ⟨kind, text, r⟩).toArray⟩ = prn ⟨kind, text, r⟩ from rfl] at hws
           have hx3 := (hb3.block wr.heap.size (Array.getElem?_eq_some_iff.1 hx5).1).trans hx5
           generalize prn ⟨kind, text, r⟩ = pq at *
           go_wp2_with fail
           refine hws.mono ?_
           rintro e w4 ⟨rfl, hB4, hb4, hk4⟩
           have hx4 := hk4 wr.heap.size _ _ _ hx3 (by decide) (by have := hb.size; have := hB.lt; omega)
           obtain ⟨y0, _, _, _⟩ := cells_four hx4
           clear hws hpr hkn
           go_wp2
           go_roundw
           case rel => exact ⟨i + 1, (o ++ [32]) ++ pq, kind, true, by go_num, rfl, by omega, by simp; omega, hide n7, hide (by rw [HO2.out]; simp), hB4, hbb3.trans hb4⟩
           case measure => simp [intOf]; omega
         | false =>
           have na := HAB.out
           rw [if_neg (by decide)] at HO2
           have hpr := hpr0 W1 hd1
           clear hpr0
           go_wp2_with fail
           refine hkn.mono ?_
           rintro e w2 ⟨rfl, rfl⟩
           go_wp2_with fail
           refine hpr.mono ?_
           rintro e w3 ⟨rfl, hb3⟩
           have hB3 := hB1.later hb3
           have hbb3 := nx hb1 hb3
           have hws := wstr_k w.heap.size w.heap.size o ⟨(prn ⟨kind, text, r⟩).toArray⟩ w3 hB3 (by first | omega | (simp; omega)) (by show (prn ⟨kind, text, r⟩).toArray.size ≤ _; simp; omega) hbb3.size
           rw [show bts ⟨(prn ⟨kind, text, r⟩).toArray⟩ = prn ⟨kind, text, r⟩ from rfl] at hws
           have hx3 := (hb3.block wr.heap.size (Array.getElem?_eq_some_iff.1 hx0).1).trans hx0
           generalize prn ⟨kind, text, r⟩ = pq at *
           go_wp2_with fail
           refine hws.mono ?_
           rintro e w4 ⟨rfl, hB4, hb4, hk4⟩
           have hx4 := hk4 wr.heap.size _ _ _ hx3 (by decide) (by have := hb.size; have := hB.lt; omega)
           obtain ⟨y0, _, _, _⟩ := cells_four hx4
           clear hws hpr hkn
           go_wp2
           go_roundw
           case rel => exact ⟨i + 1, o ++ pq, kind, true, by go_num, rfl, by omega, by simp; omega, hide n7, hide (by rw [HO2.out]; simp), hB4, hbb3.trans hb4⟩
           case measure => simp [intOf]; omega
   · have HE : Hid (X.tailP false (l.map Prod.fst) = o) := hide (by
       rw [HO.out, List.drop_eq_nil_of_le (by omega)]
       simp [X.tailP])
     clear HO HAB HK HR HDb
     have hst := bstr_any w.heap.size w.heap.size o wr hB hb.size
     go_wp2_with fail
     refine hst.mono ?_
     rintro e w2 ⟨rfl, hb2⟩
     go_wp2
     go_ret
     exact ⟨by rw [HE.out]; rfl, hb.trans hb2⟩
end Go.Proofs.YteaaijhppmkfeaaGreatDoor
