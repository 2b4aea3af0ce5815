/- The first look. -/
import Derived.Test.YtbeihgjonhgfmaaGreatDoorChj
namespace Go.Proofs.YtbeihgjonhgfmaaGreatDoor
open Go.RowKit Go.Shelf Go.Maps
attribute [local go_sem] Oper.semAt_some
namespace C
abbrev enGB : Tx := [101, 110, 45, 71, 66]
def kL1 : Row := put [] enGB []
def kL2 : Row := put kL1 G.rootB []
def kL3 : Row := put kL2 G.rootB enGB
theorem enGB_T : G.isT enGB = true := by decide +kernel
theorem x_T : G.isT [120] = false := by decide +kernel
theorem k_len : kL1.length = 1 ∧ kL2.length = 2 ∧ kL3.length = 2 := by decide +kernel
theorem k_ch2 : chain kL2 enGB = ([enGB, G.rootB], 0) := by decide +kernel
theorem k_ch3 : chain kL3 enGB = ([], 111) := by decide +kernel
theorem k_ck3 : check kL3 = (enGB, 111) := by decide +kernel
theorem k_de : has kL3 [100, 101] = false := by decide +kernel
set_option maxRecDepth 100000 in
set_option maxHeartbeats 2000000 in
theorem known_any (w : World) (hA : AF w) : Calls Tryz.prog 9 #[] w fun e W' => e = .returned (.bool true) ∧ Below w.heap.size w W' := by
  have hz := AF.pos hA
  have hes := elemSize30
  have hnew := new_any w
  have hs1 := fun W (h : FB w.heap.size W w.heap.size []) (hb : Below w.heap.size w W) => setB_ok h hb.size enGB [] enGB_T (.inl rfl) (by simp) (hA.later hb)
  have hs2 := fun W (h : FB w.heap.size W w.heap.size kL1) (hb : Below w.heap.size w W) => setB_ok h hb.size G.rootB [] G.root_isT (.inl rfl) (by rw [k_len.1]; omega) (hA.later hb)
  have hs3 := fun W (h : FB w.heap.size W w.heap.size kL2) (hb : Below w.heap.size w W) => setB_no h hb.size [120] [] (by simp) (by simp) (fun hh => by rw [x_T] at hh; cases hh.1) (by rw [k_len.2.1]; omega) (hA.later hb)
  have hc1 := fun W (h : FB w.heap.size W w.heap.size kL2) (hb : Below w.heap.size w W) => chainB h enGB (by simp) (hA.later hb)
  have hs4 := fun W (h : FB w.heap.size W w.heap.size kL2) (hb : Below w.heap.size w W) => setB_ok h hb.size G.rootB enGB G.root_isT (.inr enGB_T) (by rw [k_len.2.1]; omega) (hA.later hb)
  have hc2 := fun W (h : FB w.heap.size W w.heap.size kL3) (hb : Below w.heap.size w W) => chainB h enGB (by simp) (hA.later hb)
  have hk1 := fun W (h : FB w.heap.size W w.heap.size kL3) (hb : Below w.heap.size w W) => checkB h (by rw [k_len.2.2]; omega) (hA.later hb)
  have hd1 := fun W (h : FB w.heap.size W w.heap.size kL3) (hb : Below w.heap.size w W) => dropB h hb.size [100, 101] (by simp)
  simp only [AnsH, k_ch2, k_ch3, k_ck3, k_de] at hc1 hc2 hk1 hd1
  clear hA
  unfold tx G.rootB enGB at *
  go_enter Tryz.func9, Tryz.ntmps9
  go_wp2_with fail
  refine hnew.mono ?_
  rintro e w1 hn1
  have f1 := FB.new hn1
  obtain ⟨rfl, _, b1⟩ := hn1
  clear hnew
  go_wp2_with fail
  refine (hs1 w1 f1 b1).mono ?_
  rintro e w2 ⟨rfl, f2, b2, _⟩
  have b2' := b1.trans b2
  clear hs1 b1 b2 f1
  go_wp2_with fail
  refine (hs2 w2 f2 b2').mono ?_
  rintro e w3 ⟨rfl, f3, b3, _⟩
  have b3' := b2'.trans b3
  clear hs2 b2' b3 f2
  go_wp2_with fail
  refine (hs3 w3 f3 b3').mono ?_
  rintro e w4 ⟨rfl, f4, b4, _⟩
  have b4' := b3'.trans b4
  clear hs3 b3' b4 f3
  go_wp2_with fail
  refine (hc1 w4 f4 b4').mono ?_
  rintro e w5 ⟨⟨v5, rfl, o5⟩, b5⟩
  have f5 := f4.later b5
  have b5' := nx b4' b5
  clear hc1 b4' b5 f4
  go_wp2_with fail
  refine (hs4 w5 f5 b5').mono ?_
  rintro e w6 ⟨rfl, f6, b6, k6⟩
  have b6' := b5'.trans b6
  have o6 := k6.1 _ _ _ o5
  clear hs4 b5' b6 f5 o5 k6
  go_wp2_with fail
  refine (hc2 w6 f6 b6').mono ?_
  rintro e w7 ⟨⟨v7, rfl, o7⟩, b7⟩
  have f7 := f6.later b7
  have b7' := nx b6' b7
  have o7 := o6.later b7
  clear hc2 b6' b7 f6 o6
  go_wp2_with fail
  refine (hk1 w7 f7 b7').mono ?_
  rintro e w8 ⟨rfl, b8⟩
  have f8 := f7.later b8
  have b8' := nx b7' b8
  have o8 := o7.later b8
  clear hk1 b7' b8 f7 o7
  obtain ⟨ao, cap, rfl, hcap, hrd⟩ := o8.rd
  obtain ⟨bb, off, rfl, _, hc8⟩ := hrd 1 (by simp)
  clear hrd o8
  simp only [List.length_cons, List.length_nil, Nat.reduceAdd, List.getElem_cons_succ, List.getElem_cons_zero] at hc8 ⊢
  go_wp2_with fail
  refine (hd1 w8 f8 b8').mono ?_
  rintro e w9 ⟨rfl, f9, b9, _⟩
  have b9' := b8'.trans b9
  clear hd1 b8' b9 f8 f9
  go_wp2
  go_ret
  exact ⟨rfl, b9'⟩
end C
end Go.Proofs.YtbeihgjonhgfmaaGreatDoor
