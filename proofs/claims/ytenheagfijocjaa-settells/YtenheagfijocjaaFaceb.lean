/- What Count, Norm and Same answer. -/
import Derived.Test.YtenheagfijocjaaFace
namespace Go.Proofs.Ytenheagfijocjaa
open Go.RowKit Go.Shelf

theorem count_append (a b : List S.R) : S.count (a ++ b) = S.count a + S.count b := by
  induction a with
  | nil => simp [S.count]
  | cons x a ih => rw [List.cons_append, S.count, S.count, ih]; omega
theorem count_take (zs : List S.R) (k : Nat) (h : k < zs.length) : S.count (zs.take (k + 1)) = S.count (zs.take k) + (zs[k].2 - zs[k].1 + 1) := by
  rw [List.take_succ_eq_append_getElem h, count_append]
  simp [S.count]
theorem count_bounds {zs : List S.R} (hC : ∀ r ∈ zs, S.good r = true) : 0 ≤ S.count zs ∧ S.count zs ≤ 1114112 * (zs.length : Int) := by
  induction zs with
  | nil => simp [S.count]
  | cons x zs ih =>
    have h1 := (S.good_iff x).1 (hC x (by simp))
    have h2 := ih (fun r hr => hC r (by simp [hr]))
    rw [S.count, List.length_cons]
    omega

set_option maxRecDepth 100000 in
set_option maxHeartbeats 2000000 in
theorem count_any (ao : Option Addr) (ca : Nat) (xs : List S.R) (hl : xs.length ≤ 400000) (w : World) (h : RdR w ao xs) :
    Calls Try.prog 27 #[.slice ao xs.length ca] w fun e W' => e = .returned (.int .i64 (S.count (S.set xs))) ∧ Below w.heap.size w W' := by
  have hs1 := S.set_length xs
  have hC := S.set_canon xs
  have hset := fun (T : TypeId) => setOf1 ao ca xs T (by omega) w h
  generalize S.set xs = zs at *
  go_enter Try.func27, Try.ntmps27
  go_wp2_with fail
  refine (hset _).mono ?_
  clear hset
  rintro e w1 ⟨a1, c1, rfl, hr1, _, hb1⟩
  go_wp2
  go_loopw [3, 10] (fun c p wr => ∃ k : Nat, p = .int .i64 (k : Int) ∧ c = .int .i64 (S.count (zs.take k)) ∧ k ≤ zs.length ∧ Below w1.heap.size w1 wr) (fun _ p _ => zs.length - (intOf p).toNat)
  case atStart => exact ⟨0, rfl, rfl, Nat.zero_le _, Below.refl _ _⟩
  case round =>
    obtain ⟨k, rfl, rfl, hk, hB⟩ := hrel
    by_cases hlt : k < zs.length
    · obtain ⟨b, off, rfl, hd1, hd2⟩ := (hr1.later hB) k hlt
      have hgk := (S.good_iff _).1 (hC.good _ (List.getElem_mem hlt))
      have hbd := count_bounds (zs := zs.take k) (fun r hr => hC.good r (List.mem_of_mem_take hr))
      have hst := hide (count_take zs k hlt)
      rw [List.length_take] at hbd
      generalize S.count (zs.take k) = c at *
      generalize zs[k] = s at *
      obtain ⟨s1, s2⟩ := s
      simp only at hgk hd1 hd2 hst
      have hw1 : IntKind.i32.wrap (s2 - s1) = s2 - s1 := by simp [IntKind.wrap, IntKind.bits, IntKind.signed]; omega
      have hw2 : IntKind.i64.wrap (s2 - s1) = s2 - s1 := by simp [IntKind.wrap, IntKind.bits, IntKind.signed]; omega
      have hw3 : IntKind.i64.wrap (s2 - s1 + 1) = s2 - s1 + 1 := by simp [IntKind.wrap, IntKind.bits, IntKind.signed]; omega
      have hw4 : IntKind.i64.wrap (c + (s2 - s1 + 1)) = c + (s2 - s1 + 1) := by simp [IntKind.wrap, IntKind.bits, IntKind.signed]; omega
      clear hr1 hC
      go_wp2
      go_roundw
      case rel => exact ⟨k + 1, by go_num, by rw [hst.out], by omega, nx hB (al1 _ _)⟩
      case measure => simp [intOf]; omega
    · obtain rfl : k = zs.length := by omega
      rw [List.take_length]
      go_wp2
      go_ret
      exact ⟨rfl, nx hb1 hB⟩

/-- What Norm answers. -/
noncomputable def normL (xs : List S.R) : List S.R := if (xs.all S.good) = true ∧ (S.set xs).length ≤ 200 then S.set xs else []
noncomputable def normE (xs : List S.R) : Int := if (xs.all S.good) = true ∧ (S.set xs).length ≤ 200 then 0 else 30

set_option maxRecDepth 100000 in
set_option maxHeartbeats 2000000 in
theorem norm_any (ao : Option Addr) (ca : Nat) (xs : List S.R) (hl : xs.length ≤ 400000) (w : World) (h : RdR w ao xs) :
    Calls Try.prog 10 #[.slice ao xs.length ca] w fun e W' => ∃ a c, e = .returned (.tuple #[.slice a (normL xs).length c, .int .i64 (normE xs)]) ∧ RdR W' a (normL xs) ∧ (a = none → c = 0) ∧ Below w.heap.size w W' := by
  have hs1 := S.set_length xs
  have hset := fun (T : TypeId) (W : World) (h : RdR W ao xs) => setOf1 ao ca xs T (by omega) W h
  obtain ⟨nl, hnl⟩ : ∃ nl, normL xs = nl := ⟨_, rfl⟩
  obtain ⟨ne, hne⟩ : ∃ ne, normE xs = ne := ⟨_, rfl⟩
  rw [hnl, hne]
  unfold normL at hnl
  unfold normE at hne
  have HL := hide hnl
  have HE := hide hne
  clear hnl hne
  generalize S.set xs = zs at *
  go_enter Try.func10, Try.ntmps10
  go_wp2
  go_loopw [9] (fun p wr => ∃ k : Nat, p = .int .i64 (k : Int) ∧ k ≤ xs.length ∧ (∀ r ∈ xs.take k, S.good r = true) ∧ Below w.heap.size w wr) (fun p _ => xs.length - (intOf p).toNat)
  case atStart => exact ⟨0, rfl, Nat.zero_le _, fun r hr => by simp at hr, Below.refl _ _⟩
  case round =>
    obtain ⟨k, rfl, hk, hgs, hB⟩ := hrel
    by_cases hlt : k < xs.length
    · obtain ⟨b, off, rfl, hd1, hd2⟩ := (h.later hB) k hlt
      have hT := List.take_succ_eq_append_getElem hlt
      have hgood := isGood_any xs[k].1 xs[k].2
      rw [show (xs[k].1, xs[k].2) = xs[k] from rfl] at hgood
      obtain ⟨gx, hgx⟩ : ∃ gx, S.good xs[k] = gx := ⟨_, rfl⟩
      rw [hgx] at hgood
      have HX := hide hgx
      have HT := hide hT
      have hmem := List.getElem_mem hlt
      clear hgx hT
      generalize hxk : xs[k] = s at *
      obtain ⟨s1, s2⟩ := s
      simp only at hgood hd1 hd2
      have HK := hide hxk
      have hbx := al1 wr (.cells #[.int .i32 s1, .int .i32 s2] 34)
      clear hxk h
      cases gx with
      | true =>
        go_wp2_with (go_at_call 30; refine (hgood _).mono ?_; clear hgood; rintro e w2 ⟨rfl, hb2⟩)
        go_roundw
        case rel => exact ⟨k + 1, by go_num, by omega, fun r hr => by
          rw [HT.out] at hr
          rcases List.mem_append.1 hr with hr | hr
          · exact hgs r hr
          · simp at hr; rw [hr]; exact HX.out, nx (nx hB hbx) hb2⟩
        case measure => simp [intOf]; omega
      | false =>
        go_wp2_with (go_at_call 30; refine (hgood _).mono ?_; clear hgood; rintro e w2 ⟨rfl, hb2⟩)
        have hno : ¬ ((xs.all S.good) = true ∧ zs.length ≤ 200) := fun hh => by
          have := List.all_eq_true.1 hh.1 _ hmem
          rw [HX.out] at this
          cases this
        rw [if_neg hno] at HL HE
        obtain rfl : [] = nl := HL.out
        obtain rfl : 30 = ne := HE.out
        go_ret2
        exact ⟨none, 0, rfl, rdr_nil _ _, fun _ => rfl, nx (nx hB hbx) hb2⟩
    · obtain rfl : k = xs.length := by omega
      rw [List.take_length] at hgs
      have hall : xs.all S.good = true := List.all_eq_true.2 hgs
      have hr0 := h.later hB
      go_wp2_with fail
      refine (hset _ wr hr0).mono ?_
      clear hset
      rintro e w1 ⟨a1, c1, rfl, hr1, _, hb1⟩
      by_cases hbig : zs.length ≤ 200
      · go_wp2_with fail
        refine (values_gives a1 zs c1 (by omega) w1 hr1).mono ?_
        rintro e w2 ⟨v, rfl, hit, hb2⟩
        have hlo := listOf_any v zs (by omega) w2 w2 hit (Below.refl _ _)
        obtain ⟨gf, lb, rfl, _, _⟩ := hit
        go_wp2_with fail
        refine hlo.mono ?_
        rintro e w3 ⟨u, rfl, ho, hb3⟩
        obtain ⟨a3, c3, rfl, _, hn3, hr3⟩ := ho.rd
        go_wp2
        rw [if_pos ⟨hall, hbig⟩] at HL HE
        obtain rfl : zs = nl := HL.out
        obtain rfl : 0 = ne := HE.out
        go_ret2
        exact ⟨a3, c3, rfl, hr3, hn3, nx (nx (nx hB hb1) hb2) hb3⟩
      · go_wp2
        rw [if_neg (fun hh => hbig hh.2)] at HL HE
        obtain rfl : [] = nl := HL.out
        obtain rfl : 30 = ne := HE.out
        go_ret2
        exact ⟨none, 0, rfl, rdr_nil _ _, fun _ => rfl, nx hB hb1⟩
end Go.Proofs.Ytenheagfijocjaa
