/- The iterator over what the code space has and a set hasn't. -/
import Derived.Test.YtbkcbclloemajaaVals
namespace Go.Proofs.Ytbkcbclloemajaa
open Go.RowKit Go.Shelf
attribute [local go_sem] Oper.semAt_some

/-- What the iterator reads: the box of the space, the box of its slice, the spans. -/
structure SG (Bs Bn : Nat) (ao : Option Addr) (cap : Nat) (xs : List S.R) (W : World) : Prop where
  lo : W.cell? ⟨Bs, 0, none⟩ = some (.int .i32 0)
  hi : W.cell? ⟨Bs, 1, none⟩ = some (.int .i32 1114111)
  box : W.cell? ⟨Bn, 0, none⟩ = some (.slice ao xs.length cap)
  rd : RdR W ao xs
theorem SG.later {Bs Bn : Nat} {ao : Option Addr} {cap : Nat} {xs : List S.R} {W W' : World} (h : SG Bs Bn ao cap xs W) (hb : Below W.heap.size W W') : SG Bs Bn ao cap xs W' :=
  ⟨cell_later hb h.lo, cell_later hb h.hi, cell_later hb h.box, h.rd.later hb⟩
theorem SG.under {Bs Bn n0 : Nat} {ao : Option Addr} {cap : Nat} {xs : List S.R} {A B : World} (hs : Bs < n0) (hn : Bn < n0) (hlo : Lo n0 ao xs.length) (h : SG Bs Bn ao cap xs A) (hc : ∀ a v, a.block < n0 → A.cell? a = some v → B.cell? a = some v) : SG Bs Bn ao cap xs B :=
  ⟨hc _ _ hs h.lo, hc _ _ hs h.hi, hc _ _ hn h.box, h.rd.under hlo hc⟩
theorem cells_two {W : World} {k : Nat} {u v : Value} {t : TypeId} (h : W.heap[k]? = some (.cells #[u, v] t)) : W.cell? ⟨k, 0, none⟩ = some u ∧ W.cell? ⟨k, 1, none⟩ = some v := by
  simp [World.cell?, h]

end Go.Proofs.Ytbkcbclloemajaa
