/- The class of a code point. -/
import Derived.Test.YtbkcbclloemajaaMeth
namespace Go.Proofs.Ytbkcbclloemajaa
open Go.RowKit Go.Shelf

set_option maxHeartbeats 2000000 in
theorem of1_any (f r : Int) (c : Nat) (w : World) : Calls Try.prog 29 #[.agg #[.int .i32 f, .int .i64 (c : Int)], .int .i32 r] w fun e w' => e = .returned (.int .i64 (if f ≤ r then -1 else 1)) ∧ Below w.heap.size w w' := by
  have hb := al1 w (.cells #[.int .i32 f, .int .i64 (c : Int)] 65)
  have hc := (cells_two (World.alloc_heap_new w (.cells #[.int .i32 f, .int .i64 (c : Int)] 65))).1
  by_cases h : f ≤ r
  · go_enter Try.func29, Try.ntmps29
    go_wp2
    go_ret
    exact ⟨rfl, hb⟩
  · have h' : r < f := by omega
    go_enter Try.func29, Try.ntmps29
    go_wp2
    go_ret
    exact ⟨rfl, hb⟩
theorem RdP.later {w w' : World} {aps : Option Addr} {ps : List (Int × Nat)} (h : RdP w aps ps) (hb : Below w.heap.size w w') : RdP w' aps ps := fun i hi => by
  obtain ⟨g, off, e, c1, c2⟩ := h i hi
  exact ⟨g, off, e, cell_later hb c1, cell_later hb c2⟩
/-- So many pieces begin at r or ahead of it. -/
def Cnt (ps : List (Int × Nat)) (r : Int) (k : Nat) : Prop := k ≤ ps.length ∧ (∀ i (h : i < ps.length), i < k → ps[i].1 ≤ r) ∧ (∀ i (h : i < ps.length), k ≤ i → r < ps[i].1)

set_option maxRecDepth 100000 in
set_option maxHeartbeats 4000000 in
theorem bsf_any (aps : Option Addr) (cps : Nat) (ps : List (Int × Nat)) (r : Int) (hl : ps.length ≤ 10000000) (hs : ps.Pairwise fun a b => a.1 < b.1) (w : World) (h : RdP w aps ps) :
    Calls Try.prog 28 #[.slice aps ps.length cps, .int .i32 r, .func (.func 29) #[] #[]] w fun e w' => ∃ (k : Nat) (v : Value), e = .returned (.tuple #[.int .i64 (k : Int), v]) ∧ Cnt ps r k ∧ Below w.heap.size w w' := by
  have hsm : ∀ i j (hi : i < ps.length) (hj : j < ps.length), i < j → ps[i].1 < ps[j].1 := fun i j hi hj hij => List.pairwise_iff_getElem.1 hs i j hi hj hij
  have HS := hide hsm
  clear hs hsm
  go_enter Try.func28, Try.ntmps28
  go_wp2
  go_loopw [9, 10] (fun v u wr => ∃ (i j : Nat), v = .int .i64 (i : Int) ∧ u = .int .i64 (j : Int) ∧ i ≤ j ∧ j ≤ ps.length ∧ Hid (∀ t (h : t < ps.length), t < i → ps[t].1 ≤ r) ∧ Hid (∀ t (h : t < ps.length), j ≤ t → r < ps[t].1) ∧ Below w.heap.size w wr) (fun v u _ => (intOf u).toNat - (intOf v).toNat)
  case atStart => exact ⟨0, ps.length, rfl, rfl, Nat.zero_le _, Nat.le_refl _, hide (fun t _ h => by omega), hide (fun t h h2 => by omega), Below.refl _ _⟩
  case round =>
    obtain ⟨i, j, rfl, rfl, h1, h2, HA, HB, hb⟩ := hrel
    by_cases hlt : i < j
    · have hm : (i + j) / 2 < ps.length := by omega
      obtain ⟨g, off, rfl, c1, c2⟩ := (h.later hb) ((i + j) / 2) hm
      have hi1 : i ≤ (i + j) / 2 := by omega
      have hi2 : (i + j) / 2 < j := by omega
      obtain ⟨fq, hfq⟩ : ∃ fq, fq = ps[(i + j) / 2].1 := ⟨_, rfl⟩
      obtain ⟨cq, hcq⟩ : ∃ cq, cq = ps[(i + j) / 2].2 := ⟨_, rfl⟩
      rw [← hfq] at c1
      rw [← hcq] at c2
      have HF := hide hfq
      clear hfq hcq
      have hcall := of1_any fq r cq wr
      by_cases hle : fq ≤ r
      · rw [if_pos hle] at hcall
        go_wp2_with (go_at_call 29; refine hcall.mono ?_; clear hcall; rintro e w2 ⟨rfl, hb2⟩)
        go_roundw
        case rel =>
          refine ⟨(i + j) / 2 + 1, j, by go_num, rfl, by omega, h2, hide (fun t ht htk => ?_), HB, nx hb hb2⟩
          rcases Nat.lt_or_ge t ((i + j) / 2) with h3 | h3
          · have := HS.out t ((i + j) / 2) ht hm h3
            rw [← HF.out] at this
            omega
          · obtain rfl : t = (i + j) / 2 := by omega
            rw [← HF.out]; exact hle
        case measure => simp [intOf]; omega
      · rw [if_neg hle] at hcall
        go_wp2_with (go_at_call 29; refine hcall.mono ?_; clear hcall; rintro e w2 ⟨rfl, hb2⟩)
        go_roundw
        case rel =>
          refine ⟨i, (i + j) / 2, rfl, by go_num, hi1, by omega, HA, hide (fun t ht htk => ?_), nx hb hb2⟩
          rcases Nat.lt_or_ge ((i + j) / 2) t with h3 | h3
          · have := HS.out ((i + j) / 2) t hm ht h3
            rw [← HF.out] at this
            omega
          · obtain rfl : t = (i + j) / 2 := by omega
            rw [← HF.out]; omega
        case measure => simp [intOf]; omega
    · obtain rfl : i = j := by omega
      have hcnt : Cnt ps r i := ⟨h2, HA.out, HB.out⟩
      have HC := hide hcnt
      clear hcnt
      by_cases hil : i < ps.length
      · obtain ⟨g, off, rfl, c1, c2⟩ := (h.later hb) i hil
        obtain ⟨fq, hfq⟩ : ∃ fq, fq = ps[i].1 := ⟨_, rfl⟩
        obtain ⟨cq, hcq⟩ : ∃ cq, cq = ps[i].2 := ⟨_, rfl⟩
        rw [← hfq] at c1
        rw [← hcq] at c2
        have hle : ¬ fq ≤ r := by have := HB.out i hil (Nat.le_refl _); omega
        clear hfq hcq
        have hcall := of1_any fq r cq wr
        rw [if_neg hle] at hcall
        go_wp2_with (go_at_call 29; refine hcall.mono ?_; clear hcall; rintro e w2 ⟨rfl, hb2⟩)
        go_ret2
        exact ⟨i, _, rfl, HC.out, nx hb hb2⟩
      · obtain rfl : i = ps.length := by omega
        go_wp2
        go_ret2
        exact ⟨ps.length, _, rfl, HC.out, hb⟩
set_option maxRecDepth 100000 in
set_option maxHeartbeats 4000000 in
theorem cof_any {w : World} {pc n : Nat} {ms : List Nat} {sets : Nat → List S.R} {ps : List (Int × Nat)} (h : Cl w pc n ms sets ps) (hl : ps.length ≤ 10000000) (hs : ps.Pairwise fun a b => a.1 < b.1) (r : Int) :
    Calls Try.prog 13 #[.pointer (some ⟨pc, 0, none⟩), .int .i32 r] w fun e w' => ∃ q : Int, e = .returned (.int .i64 q) ∧ Below w.heap.size w w' ∧ ((1114111 < r ∧ q = -1) ∨ (r ≤ 1114111 ∧ Cnt ps r 0 ∧ q = -1) ∨ (r ≤ 1114111 ∧ ∃ k, ∃ hk : k < ps.length, Cnt ps r (k + 1) ∧ q = (ps[k].2 : Int))) := by
  obtain ⟨acl, ccl, aps, cps, h1, _, h3⟩ := h
  have c1 : w.cell? ⟨pc, 2, none⟩ = some (.slice aps ps.length cps) := cell_at h1 rfl
  by_cases hr : 1114111 < r
  · clear h1
    go_enter Try.func13, Try.ntmps13
    go_wp2
    go_ret
    exact ⟨-1, rfl, Below.refl _ _, .inl ⟨hr, rfl⟩⟩
  · have hr' : r ≤ 1114111 := by omega
    have hcall := bsf_any aps cps ps r hl hs w h3
    have hpl : pc < w.heap.size := (Array.getElem?_eq_some_iff.1 h1).1
    clear h1
    go_enter Try.func13, Try.ntmps13
    go_wp2_with fail
    go_at_call 28
    refine hcall.mono ?_
    clear hcall
    rintro e w2 ⟨k, v, rfl, hc, hb2⟩
    have c2 := cell_later hb2 c1
    have h4 := h3.later hb2
    clear c1 h3
    rcases k with _ | k
    · go_wp2
      go_ret
      exact ⟨-1, rfl, hb2, .inr (.inl ⟨hr', hc, rfl⟩)⟩
    · have hk : k < ps.length := by have := hc.1; omega
      obtain ⟨g, off, rfl, _, d2⟩ := h4 k hk
      obtain ⟨cq, hcq⟩ : ∃ cq, cq = ps[k].2 := ⟨_, rfl⟩
      rw [← hcq] at d2
      have HQ := hide hcq
      have HC := hide hc
      clear hcq hc h4
      go_wp2
      go_ret
      exact ⟨cq, rfl, hb2, .inr (.inr ⟨hr', k, hk, HC.out, by rw [HQ.out]⟩)⟩
end Go.Proofs.Ytbkcbclloemajaa
