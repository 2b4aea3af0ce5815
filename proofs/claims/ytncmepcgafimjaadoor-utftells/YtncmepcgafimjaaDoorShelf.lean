/- That the bodies of unicode/utf8.AppendRune and DecodeRune in this program are those that the library's contracts speak of; the contracts in this program's numbers. -/
import Derived.Shelf.Utf8.AppendRunePlain
import Derived.Shelf.Spec.DecodeRune
import Derived.Test.YtncmepcgafimjaaDoorProg
import Derived.Test.YtncmepcgafimjaaDoorMath
import Derived.Test.YtncmepcgafimjaaDoorRd
namespace Go.Proofs.YtncmepcgafimjaaDoor
open Go.Shelf Go.RowKit
def lays242_ren : Go.Shelf.Ren := ⟨fun | 242 => 18 | 278 => 22 | n => n, fun | 37 => 22 | 21 => 21 | 51 => 48 | 4 => 4 | 5 => 5 | 46 => 47 | n => n, fun | n => n⟩
theorem lays242 : Go.Proofs.Lays.n242 Tryd.prog lays242_ren := {
  mixed := by kernel_rfl
  f242 := Tryd.func18.trans (congrArg some (by kernel_rfl))
  f278 := Tryd.func22.trans (congrArg some (by kernel_rfl))
  t4 := Tryd.underlying4
  a4 := Tryd.isAgg4
  z4 := Tryd.sizeOf4
  v4 := Tryd.zeroValue4
  t5 := Tryd.underlying5
  a5 := Tryd.isAgg5
  z5 := Tryd.sizeOf5
  v5 := Tryd.zeroValue5
  t21 := Tryd.underlying21
  a21 := Tryd.isAgg21
  z21 := Tryd.sizeOf21
  v21 := Tryd.zeroValue21
  t37 := Tryd.underlying22
  a37 := Tryd.isAgg22
  z37 := Tryd.sizeOf22
  v37 := Tryd.zeroValue22
  t46 := Tryd.underlying47
  a46 := Tryd.isAgg47
  z46 := Tryd.sizeOf47
  v46 := Tryd.zeroValue47
  t51 := Tryd.underlying48
  a51 := Tryd.isAgg48
  z51 := Tryd.sizeOf48
  v51 := Tryd.zeroValue48 }
def lays32_ren : Go.Shelf.Ren := ⟨fun | 32 => 21 | 49 => 23 | n => n, fun | 30 => 22 | 21 => 21 | 3 => 3 | 0 => 0 | 5 => 5 | 4 => 4 | 33 => 43 | 66 => 49 | 25 => 47 | 69 => 52 | 68 => 51 | n => n, fun | 2 => 0 | 3 => 1 | n => n⟩
theorem lays32 : Go.Proofs.Lays7.n32 Tryd.prog lays32_ren := {
  mixed := by kernel_rfl
  f32 := Tryd.func21.trans (congrArg some (by kernel_rfl))
  f49 := Tryd.func23.trans (congrArg some (by kernel_rfl))
  t0 := Tryd.underlying0
  a0 := Tryd.isAgg0
  z0 := Tryd.sizeOf0
  v0 := Tryd.zeroValue0
  i0 := by kernel_rfl
  t3 := Tryd.underlying3
  a3 := Tryd.isAgg3
  z3 := Tryd.sizeOf3
  v3 := Tryd.zeroValue3
  i3 := by kernel_rfl
  t4 := Tryd.underlying4
  a4 := Tryd.isAgg4
  z4 := Tryd.sizeOf4
  v4 := Tryd.zeroValue4
  i4 := by kernel_rfl
  t5 := Tryd.underlying5
  a5 := Tryd.isAgg5
  z5 := Tryd.sizeOf5
  v5 := Tryd.zeroValue5
  i5 := by kernel_rfl
  t21 := Tryd.underlying21
  a21 := Tryd.isAgg21
  z21 := Tryd.sizeOf21
  v21 := Tryd.zeroValue21
  i21 := by kernel_rfl
  t25 := Tryd.underlying47
  a25 := Tryd.isAgg47
  z25 := Tryd.sizeOf47
  v25 := Tryd.zeroValue47
  i25 := by kernel_rfl
  t30 := Tryd.underlying22
  a30 := Tryd.isAgg22
  z30 := Tryd.sizeOf22
  v30 := Tryd.zeroValue22
  i30 := by kernel_rfl
  t33 := Tryd.underlying43
  a33 := Tryd.isAgg43
  z33 := Tryd.sizeOf43
  v33 := Tryd.zeroValue43
  i33 := by kernel_rfl
  t66 := Tryd.underlying49
  a66 := Tryd.isAgg49
  z66 := Tryd.sizeOf49
  t68 := Tryd.underlying51
  a68 := Tryd.isAgg51
  z68 := Tryd.sizeOf51
  v68 := Tryd.zeroValue51
  i68 := by kernel_rfl
  t69 := Tryd.underlying52
  a69 := Tryd.isAgg52
  z69 := Tryd.sizeOf52
  v69 := Tryd.zeroValue52
  i69 := by kernel_rfl
  g2 := by kernel_rfl
  g3 := by kernel_rfl }

/-- The library's two tables lie in the first two blocks. -/
def Tabs (w : World) : Prop := Lib.Utf8Tabs 0 1 w
theorem Tabs.later {w wx : World} (h : Tabs w) (hb : Below w.heap.size w wx) : Tabs wx :=
  ⟨fun c hc => cell_later hb (h.1 c hc), fun i hi => ⟨cell_later hb (h.2 i hi).1, cell_later hb (h.2 i hi).2⟩⟩

theorem get_list (bs : List UInt8) (i : Nat) : (ByteArray.mk bs.toArray).get! i = bs.getD i 0 := by
  show (bs.toArray)[i]! = _
  rw [List.getElem!_toArray, List.getElem!_eq_getElem?_getD]
  rfl
theorem decodeGo_list {bs : List UInt8} (h : bs ≠ []) : Lib.decodeGo ⟨bs.toArray⟩ = M.dec bs := by
  have hs : (ByteArray.mk bs.toArray).size = bs.length := by show bs.toArray.size = _; simp
  unfold Lib.decodeGo
  rw [if_neg (by rw [hs]; cases bs with | nil => exact absurd rfl h | cons _ _ => simp), Lib.decode_at, hs, get_list, get_list, get_list, get_list]
  rfl

/-- utf8.DecodeRune of bytes that are not none. -/
theorem decode_any (ao : Option Addr) (cap : Nat) (bs : List UInt8) (hb : bs ≠ []) (w : World) (ht : Tabs w) (hc : Rd w ao (cB bs)) :
    Calls Tryd.prog 21 #[.slice ao bs.length cap] w fun e w' => e = .returned (.tuple #[.int .i32 ((M.dec bs).1 : Nat), .int .i64 ((M.dec bs).2 : Nat)]) ∧ Below w.heap.size w w' := by
  have hp : 0 < bs.length := by cases bs with | nil => exact absurd rfl hb | cons _ _ => simp
  obtain ⟨b, off, rfl, _⟩ := hc.byte 0 hp
  have hs : (ByteArray.mk bs.toArray).size = bs.length := by show bs.toArray.size = _; simp
  have := Any7.utf8_DecodeRune lays32 ⟨bs.toArray⟩ b off cap w ht (fun j hj => by
    rw [hs] at hj
    obtain ⟨b', off', e, h⟩ := hc.byte j hj
    simp only [Option.some.injEq, Addr.mk.injEq] at e
    obtain ⟨rfl, rfl, _⟩ := e
    rw [h, get_list, List.getD_eq_getElem?_getD, List.getElem?_eq_getElem hj, Option.getD_some])
  rw [decodeGo_list hb, hs] at this
  exact this

theorem rune_cells (r : Int) : Lib.runeCells r = cB (M.enc r) := (Lib.byteCells_encodeRune r).symm

/-- utf8.AppendRune behind a row of the call's own. -/
theorem apprune_any (v : Value) (r : Int) (h0 : -2147483648 ≤ r) (h1 : r ≤ 2147483647) (B : Nat) (bs : List UInt8) (w : World) (hB : B ≤ w.heap.size) (ho : Own w B 5 v (cB bs)) (hl : bs.length ≤ 1000000) :
    Calls Tryd.prog 18 #[v, .int .i32 r] w fun e w' => ∃ v', e = .returned v' ∧ Own w' B 5 v' (cB (bs ++ M.enc r)) ∧ Below B w w' := by
  refine (Any.utf8_AppendRune_plain lays242 (by kernel_rfl) B v (cB bs).length (cB bs) r h0 h1 w ho (by rw [cB_length]; omega) hB).mono ?_
  rintro e w' ⟨v', rfl, ho', o, hg⟩
  refine ⟨v', rfl, ?_, ?_⟩
  · unfold Own
    rw [cB_append, List.length_append, ← rune_cells]
    exact ho'
  · exact ((Below.refl _ _).alloc hB o).grown hg (by simp; omega) ho.block
end Go.Proofs.YtncmepcgafimjaaDoor
