/- What Count, Norm and Same answer. -/
import Derived.Test.YtbkcbclloemajaaFace
namespace Go.Proofs.Ytbkcbclloemajaa
open Go.RowKit Go.Shelf

theorem count_append (a b : List S.R) : S.count (a ++ b) = S.count a + S.count b := by
  induction a with
  | nil => simp [S.count]
  | cons x a ih => rw [List.cons_append, S.count, S.count, ih]; omega
theorem count_take (zs : List S.R) (k : Nat) (h : k < zs.length) : S.count (zs.take (k + 1)) = S.count (zs.take k) + (zs[k].2 - zs[k].1 + 1) := by
  rw [List.take_succ_eq_append_getElem h, count_append]
  simp [S.count]
theorem count_bounds {zs : List S.R} (hC : ∀ r ∈ zs, S.good r = true) : 0 ≤ S.count zs ∧ S.count zs ≤ 1114112 * (zs.length : Int) := by
  induction zs with
  | nil => simp [S.count]
  | cons x zs ih =>
    have h1 := (S.good_iff x).1 (hC x (by simp))
    have h2 := ih (fun r hr => hC r (by simp [hr]))
    rw [S.count, List.length_cons]
    omega

set_option maxRecDepth 100000 in
set_option maxHeartbeats 2000000 in
theorem count_any (ao : Option Addr) (ca : Nat) (xs : List S.R) (hl : xs.length ≤ 400000) (w : World) (h : RdR w ao xs) :
    Calls Try.prog 20 #[.slice ao xs.length ca] w fun e W' => e = .returned (.int .i64 (S.count (S.set xs))) ∧ Below w.heap.size w W' := by
  have hs1 := S.set_length xs
  have hC := S.set_canon xs
  have hset := fun (T : TypeId) => setOf1 ao ca xs T (by omega) w h
  generalize S.set xs = zs at *
  go_enter Try.func20, Try.ntmps20
  go_wp2_with fail
  refine (hset _).mono ?_
  clear hset
  rintro e w1 ⟨a1, c1, rfl, hr1, _, hb1⟩
  go_wp2
  go_loopw [3, 10] (fun c p wr => ∃ k : Nat, p = .int .i64 (k : Int) ∧ c = .int .i64 (S.count (zs.take k)) ∧ k ≤ zs.length ∧ Below w1.heap.size w1 wr) (fun _ p _ => zs.length - (intOf p).toNat)
  case atStart => exact ⟨0, rfl, rfl, Nat.zero_le _, Below.refl _ _⟩
  case round =>
    obtain ⟨k, rfl, rfl, hk, hB⟩ := hrel
    by_cases hlt : k < zs.length
    · obtain ⟨b, off, rfl, hd1, hd2⟩ := (hr1.later hB) k hlt
      have hgk := (S.good_iff _).1 (hC.good _ (List.getElem_mem hlt))
      have hbd := count_bounds (zs := zs.take k) (fun r hr => hC.good r (List.mem_of_mem_take hr))
      have hst := hide (count_take zs k hlt)
      rw [List.length_take] at hbd
      generalize S.count (zs.take k) = c at *
      generalize zs[k] = s at *
      obtain ⟨s1, s2⟩ := s
      simp only at hgk hd1 hd2 hst
      have hw1 : IntKind.i32.wrap (s2 - s1) = s2 - s1 := by simp [IntKind.wrap, IntKind.bits, IntKind.signed]; omega
      have hw2 : IntKind.i64.wrap (s2 - s1) = s2 - s1 := by simp [IntKind.wrap, IntKind.bits, IntKind.signed]; omega
      have hw3 : IntKind.i64.wrap (s2 - s1 + 1) = s2 - s1 + 1 := by simp [IntKind.wrap, IntKind.bits, IntKind.signed]; omega
      have hw4 : IntKind.i64.wrap (c + (s2 - s1 + 1)) = c + (s2 - s1 + 1) := by simp [IntKind.wrap, IntKind.bits, IntKind.signed]; omega
      clear hr1 hC
      go_wp2
      go_roundw
      case rel => exact ⟨k + 1, by go_num, by rw [hst.out], by omega, nx hB (al1 _ _)⟩
      case measure => simp [intOf]; omega
    · obtain rfl : k = zs.length := by omega
      rw [List.take_length]
      go_wp2
      go_ret
      exact ⟨rfl, nx hb1 hB⟩

/-- What Norm answers. -/
noncomputable def normL (xs : List S.R) : List S.R := if (xs.all S.good) = true ∧ (S.set xs).length ≤ 200 then S.set xs else []
noncomputable def normE (xs : List S.R) : Int := if (xs.all S.good) = true ∧ (S.set xs).length ≤ 200 then 0 else 30

end Go.Proofs.Ytbkcbclloemajaa
