/- Joined: Rk0. -/
import Derived.Test.YtgngaldoemopjaaGreatDoorFJA
namespace Go.Proofs.YtgngaldoemopjaaGreatDoor
open Go.RowKit
def RdK (w : World) (ao : Option Addr) (l : List (X.Tk × Nat)) : Prop :=
 ∀ i (h : i < l.length), ∃ b off, ao = some ⟨b, off, none⟩ ∧ w.cell? ⟨b, off + i * 4, none⟩ = some (.int .i64 (l[i].1.kind : Int)) ∧ w.cell? ⟨b, off + i * 4 + 1, none⟩ = some (.int .i64 (l[i].2 : Int)) ∧ w.cell? ⟨b, off + i * 4 + 2, none⟩ = some (.string ⟨l[i].1.text.toArray⟩) ∧ w.cell? ⟨b, off + i * 4 + 3, none⟩ = some (.int .i32 l[i].1.r)
theorem RdK.later {w wx : World} {ao : Option Addr} {l : List (X.Tk × Nat)} (h : RdK w ao l) (hb : Below w.heap.size w wx) : RdK wx ao l := fun i hi =>
 let ⟨b, off, e, h0, h1, h2, h3⟩ := h i hi
 ⟨b, off, e, cell_later hb h0, cell_later hb h1, cell_later hb h2, cell_later hb h3⟩
end Go.Proofs.YtgngaldoemopjaaGreatDoor
