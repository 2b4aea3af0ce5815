/- utf8.DecodeRune; the library's tables. -/
import Derived.Shelf.Spec.DecodeRune
import Derived.Test.YtidpalighpdlfaaGreatDoorShelf
import Derived.Test.YtidpalighpdlfaaGreatDoorRd
namespace Go.Proofs.YtidpalighpdlfaaGreatDoor
open Go.Shelf Go.RowKit
/-- The library's two tables in their blocks. -/
def Tabs (w : World) : Prop := Lib.Utf8Tabs 3 4 w
theorem Tabs.later {w wx : World} (h : Tabs w) (hb : Below w.heap.size w wx) : Tabs wx :=
  ⟨fun c hc => cell_later hb (h.1 c hc), fun i hi => ⟨cell_later hb (h.2 i hi).1, cell_later hb (h.2 i hi).2⟩⟩

theorem get_list (bs : List UInt8) (i : Nat) : (ByteArray.mk bs.toArray).get! i = bs.getD i 0 := by
  show (bs.toArray)[i]! = _
  rw [List.getElem!_toArray, List.getElem!_eq_getElem?_getD]
  rfl
theorem decodeGo_list {bs : List UInt8} (h : bs ≠ []) : Lib.decodeGo ⟨bs.toArray⟩ = M.dec bs := by
  have hs : (ByteArray.mk bs.toArray).size = bs.length := by show bs.toArray.size = _; simp
  unfold Lib.decodeGo
  rw [if_neg (by rw [hs]; cases bs with | nil => exact absurd rfl h | cons _ _ => simp), Lib.decode_at, hs, get_list, get_list, get_list, get_list]
  rfl

/-- utf8.DecodeRune of bytes that are not none. -/
theorem decode_any (ao : Option Addr) (cap : Nat) (bs : List UInt8) (hb : bs ≠ []) (w : World) (ht : Tabs w) (hc : Rd w ao (cB bs)) :
    Calls Tryz.prog 83 #[.slice ao bs.length cap] w fun e w' => e = .returned (.tuple #[.int .i32 ((M.dec bs).1 : Nat), .int .i64 ((M.dec bs).2 : Nat)]) ∧ Below w.heap.size w w' := by
  have hp : 0 < bs.length := by cases bs with | nil => exact absurd rfl hb | cons _ _ => simp
  obtain ⟨b, off, rfl, _⟩ := hc.byte 0 hp
  have hs : (ByteArray.mk bs.toArray).size = bs.length := by show bs.toArray.size = _; simp
  have := Any7.utf8_DecodeRune lays32 ⟨bs.toArray⟩ b off cap w ht (fun j hj => by
    rw [hs] at hj
    obtain ⟨b', off', e, h⟩ := hc.byte j hj
    simp only [Option.some.injEq, Addr.mk.injEq] at e
    obtain ⟨rfl, rfl, _⟩ := e
    rw [h, get_list, List.getD_eq_getElem?_getD, List.getElem?_eq_getElem hj, Option.getD_some])
  rw [decodeGo_list hb, hs] at this
  exact this

end Go.Proofs.YtidpalighpdlfaaGreatDoor
