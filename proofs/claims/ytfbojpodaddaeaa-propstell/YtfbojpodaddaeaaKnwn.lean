/- props.Set; known. -/
import Derived.Test.YtfbojpodaddaeaaOf
import Derived.Test.YtfbojpodaddaeaaPropx
namespace Go.Proofs.Ytfbojpodaddaeaa
open Go.RowKit Go.Shelf

def eNo (b : Bool) : Int := if b = true then 0 else 50
theorem ite_kn {c : Prop} [Decidable c] {a b : List S.R} {x y : Bool} (h1 : x = !a.isEmpty) (h2 : y = !b.isEmpty) : (if c then x else y) = !(if c then a else b).isEmpty := by split <;> assumption
theorem kn_tl (s : List UInt8) : kn s = !(tl s).isEmpty := by
  unfold tl kn
  exact ite_kn (by decide) (ite_kn (by decide) (ite_kn (by decide) (ite_kn (by decide) (ite_kn (by decide) (ite_kn (by decide) (ite_kn (by decide) (ite_kn (by decide) (ite_kn (by decide) (ite_kn (by decide) (ite_kn (by decide) (by decide)))))))))))
set_option maxRecDepth 100000 in
set_option maxHeartbeats 4000000 in
theorem set_any (s : ByteArray) (w : World) : Calls Try.prog 9 #[.string s] w fun e W' => ∃ ao cap, e = .returned (.tuple #[.slice ao (tl s.toList).length cap, .int .i64 (eNo (kn s.toList))]) ∧ RdR W' ao (tl s.toList) ∧ (ao = none → cap = 0) ∧ Below w.heap.size w W' := by
  have ht := told_any s w
  have hk := hide (kn_tl s.toList)
  generalize kn s.toList = kk at *
  generalize tl s.toList = zs at *
  cases zs with
  | nil =>
    obtain rfl : kk = false := hk.out
    go_enter Try.func9, Try.ntmps9
    go_wp2_with fail
    refine ht.mono ?_
    rintro e w1 ⟨a1, c1, rfl, hr1, _, hb1⟩
    go_wp2
    go_ret2
    exact ⟨none, 0, rfl, rdr_nil _ _, fun _ => rfl, hb1⟩
  | cons z zt =>
    obtain rfl : kk = true := hk.out
    have hne : (((z :: zt).length : Int) == 0) = false := by simp; omega
    have hne2 : (((zt.length : Int) + 1) == 0) = false := by simp; omega
    go_enter Try.func9, Try.ntmps9
    go_wp2_with fail
    refine ht.mono ?_
    rintro e w1 ⟨a1, c1, rfl, hr1, hn1, hb1⟩
    go_wp2
    go_ret2
    exact ⟨a1, c1, rfl, hr1, hn1, hb1⟩

theorem set_lit (l : List UInt8) (zs : List S.R) (k : Int) (n : Nat) (h1 : tl l = zs) (h2 : eNo (kn l) = k) (h3 : zs.length = n) (w : World) : Calls Try.prog 9 #[.string ⟨l.toArray⟩] w fun e W' => ∃ ao cap, e = .returned (.tuple #[.slice ao n cap, .int .i64 k]) ∧ RdR W' ao zs ∧ (ao = none → cap = 0) ∧ Below w.heap.size w W' := by
  have h := set_any ⟨l.toArray⟩ w
  rw [ByteArray.toList_eq] at h
  simp only at h
  rw [h1, h2, h3] at h
  exact h

set_option maxRecDepth 100000 in
set_option maxHeartbeats 4000000 in
theorem known_any (w : World) : Calls Try.prog 6 #[] w fun e W' => e = .returned (.bool true) ∧ Below w.heap.size w W' := by
  go_enter Try.func6, Try.ntmps6
  go_wp2_with fail
  refine (set_lit [68, 105, 103, 105, 116] [(48, 57), (1632, 1641)] 0 2 (by decide) (by decide) rfl w).mono ?_
  rintro e w1 ⟨a1, c1, rfl, hr1, hn1, hb1⟩
  go_wp2_with fail
  refine (set_lit [100, 105, 103, 105, 116] [] 50 0 (by decide) (by decide) rfl w1).mono ?_
  rintro e w2 ⟨a2, c2, rfl, _, _, hb2⟩
  obtain ⟨b, off, rfl, d1, d2⟩ := (hr1.later hb2) 0 (by decide)
  simp only [List.getElem_cons_zero, Nat.zero_mul, Nat.add_zero] at d1 d2
  clear hr1 hn1
  go_wp2_with fail
  refine (names_any hT_all _).mono ?_
  rintro e w3 ⟨u3, rfl, ho3, hb3⟩
  obtain ⟨a3, c3, rfl, _, hr3⟩ := ho3.rd
  have hl : nm.length = 11 := rfl
  rw [hl]
  go_wp2
  go_ret
  exact ⟨rfl, nx (nx hb1 hb2) hb3⟩
end Go.Proofs.Ytfbojpodaddaeaa
