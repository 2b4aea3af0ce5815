/- What Count, Norm and Same answer. -/
import Derived.Test.YtfbojpodaddaeaaFace
namespace Go.Proofs.Ytfbojpodaddaeaa
open Go.RowKit Go.Shelf

theorem count_append (a b : List S.R) : S.count (a ++ b) = S.count a + S.count b := by
  induction a with
  | nil => simp [S.count]
  | cons x a ih => rw [List.cons_append, S.count, S.count, ih]; omega
theorem count_take (zs : List S.R) (k : Nat) (h : k < zs.length) : S.count (zs.take (k + 1)) = S.count (zs.take k) + (zs[k].2 - zs[k].1 + 1) := by
  rw [List.take_succ_eq_append_getElem h, count_append]
  simp [S.count]
theorem count_bounds {zs : List S.R} (hC : ∀ r ∈ zs, S.good r = true) : 0 ≤ S.count zs ∧ S.count zs ≤ 1114112 * (zs.length : Int) := by
  induction zs with
  | nil => simp [S.count]
  | cons x zs ih =>
    have h1 := (S.good_iff x).1 (hC x (by simp))
    have h2 := ih (fun r hr => hC r (by simp [hr]))
    rw [S.count, List.length_cons]
    omega

/-- What Norm answers. -/
noncomputable def normL (xs : List S.R) : List S.R := if (xs.all S.good) = true ∧ (S.set xs).length ≤ 200 then S.set xs else []
noncomputable def normE (xs : List S.R) : Int := if (xs.all S.good) = true ∧ (S.set xs).length ≤ 200 then 0 else 30

end Go.Proofs.Ytfbojpodaddaeaa
