/- The iterator over what two sets both have. -/
import Derived.Test.YtbkcbclloemajaaGood
import Derived.Sort.QuietIn
namespace Go.Proofs.Ytbkcbclloemajaa
open Go.RowKit Go.Shelf
attribute [local go_sem] Oper.semAt_some

/-- What the iterator reads: two boxes, two slices. -/
structure SC (B1 B2 : Nat) (ao bo : Option Addr) (ca cb : Nat) (xs ys : List S.R) (W : World) : Prop where
  box1 : W.cell? ⟨B1, 0, none⟩ = some (.slice ao xs.length ca)
  box2 : W.cell? ⟨B2, 0, none⟩ = some (.slice bo ys.length cb)
  rd1 : RdR W ao xs
  rd2 : RdR W bo ys
theorem SC.later {B1 B2 : Nat} {ao bo : Option Addr} {ca cb : Nat} {xs ys : List S.R} {W W' : World} (h : SC B1 B2 ao bo ca cb xs ys W) (hb : Below W.heap.size W W') : SC B1 B2 ao bo ca cb xs ys W' :=
  ⟨cell_later hb h.box1, cell_later hb h.box2, h.rd1.later hb, h.rd2.later hb⟩
theorem SC.under {B1 B2 n0 : Nat} {ao bo : Option Addr} {ca cb : Nat} {xs ys : List S.R} {A B : World} (h1 : B1 < n0) (h2 : B2 < n0) (hlo : Lo n0 ao xs.length) (hlo2 : Lo n0 bo ys.length) (h : SC B1 B2 ao bo ca cb xs ys A) (hc : ∀ a v, a.block < n0 → A.cell? a = some v → B.cell? a = some v) : SC B1 B2 ao bo ca cb xs ys B :=
  ⟨hc _ _ h1 h.box1, hc _ _ h2 h.box2, h.rd1.under hlo hc, h.rd2.under hlo2 hc⟩

theorem common_drop {xs ys : List S.R} {i j : Nat} (hi : i < xs.length) (hj : j < ys.length) : S.common (xs.drop i) (ys.drop j) = (if max xs[i].1 ys[j].1 ≤ min xs[i].2 ys[j].2 then [(max xs[i].1 ys[j].1, min xs[i].2 ys[j].2)] else []) ++ (if xs[i].2 < ys[j].2 then S.common (xs.drop (i + 1)) (ys.drop j) else S.common (xs.drop i) (ys.drop (j + 1))) := by
  rw [List.drop_eq_getElem_cons hi, List.drop_eq_getElem_cons hj, S.common, ← List.drop_eq_getElem_cons hi, ← List.drop_eq_getElem_cons hj]

end Go.Proofs.Ytbkcbclloemajaa
