/- Cut: its walk. -/
import Derived.Test.YtbkcbclloemajaaCute
namespace Go.Proofs.Ytbkcbclloemajaa
open Go.RowKit Go.Shelf
attribute [local go_sem] Oper.semAt_some

theorem RdS.take {w : World} {sao : Option Addr} {ls : List L3} (h : RdS w sao ls) (k : Nat) : RdS w sao (ls.take k) := fun i hi => by
  have hi' : i < ls.length := by rw [List.length_take] at hi; omega
  obtain ⟨b, off, e, h1, h2⟩ := h i hi'
  refine ⟨b, off, e, ?_, ?_⟩
  · rw [List.getElem_take]; exact h1
  · rw [List.getElem_take]; exact h2
theorem runP_in {zs : List (Int × Nat)} (h : ∀ p ∈ zs, 0 ≤ p.1 ∧ p.1 ≤ 1114112 ∧ p.2 < 2 ^ 64) : (runP zs).2.length ≤ zs.length ∧ ∀ p ∈ (runP zs).2, 0 ≤ p.1.1 ∧ p.1.1 ≤ p.1.2 ∧ p.1.2 ≤ 1114111 ∧ p.2 < 2 ^ 64 := by
  rcases List.eq_nil_or_concat zs with rfl | ⟨zs', ⟨a, t⟩, rfl⟩
  · simp [runP]
  · rw [List.concat_eq_append] at h ⊢
    rw [runP_snoc]
    have h1 := h (a, t) (by simp)
    have ih := runP_in (zs := zs') (fun p hp => h p (by simp [hp]))
    have hb := runP_bounds (zs := zs') (fun p hp => h p (by simp [hp]))
    simp only at h1
    split
    · rename_i hlt
      refine ⟨by simp; omega, fun p hp => ?_⟩
      rcases List.mem_append.1 hp with h2 | h2
      · exact ih.2 p h2
      · obtain rfl : p = _ := by simpa using h2
        refine ⟨hb.1, ?_, ?_, hb.2.2⟩
        · simp only; omega
        · simp only; omega
    · simp only [List.append_nil, List.length_append]
      exact ⟨by simp; omega, ih.2⟩
termination_by zs.length
decreasing_by simp_all
theorem pieces_in {zs : List (Int × Nat)} (h : ∀ p ∈ zs, 0 ≤ p.1 ∧ p.1 ≤ 1114112 ∧ p.2 < 2 ^ 64) : (pieces zs).length ≤ zs.length + 1 ∧ ∀ p ∈ pieces zs, 0 ≤ p.1.1 ∧ p.1.1 ≤ p.1.2 ∧ p.1.2 ≤ 1114111 ∧ p.2 < 2 ^ 64 := by
  have hb := runP_bounds h
  have hi := runP_in h
  unfold pieces
  split
  · rename_i hle
    refine ⟨by simp; omega, fun p hp => ?_⟩
    rcases List.mem_append.1 hp with h2 | h2
    · exact hi.2 p h2
    · obtain rfl : p = _ := by simpa using h2
      exact ⟨hb.1, hle, Int.le_refl _, hb.2.2⟩
  · rw [List.append_nil]
    exact ⟨by omega, hi.2⟩

/-- The world in which the iterator is called. -/
theorem cut_start (w : World) (n cap : Nat) (sao : Option Addr) (L : Nat) {W5 We : World} (h5 : ((((w.alloc (.cells #[.int .i64 (n : Int), .slice none 0 0, .slice none 0 0] 54)).alloc (.cells #[.pointer (some ⟨w.heap.size, 0, none⟩)] 25)).alloc (.map #[] 0)).alloc (.cells #[.map (some (w.heap.size + 1 + 1))] 55)).alloc (.cells #[.slice sao L cap] 22) = W5) (hb : Below W5.heap.size W5 We) :
    W5.heap.size = w.heap.size + 5 ∧ St w We.heap.size n [] We ∧ We.cell? ⟨w.heap.size + 1 + 1 + 1 + 1, 0, none⟩ = some (.slice sao L cap) := by
  have a1 := al1 w (.cells #[.int .i64 (n : Int), .slice none 0 0, .slice none 0 0] 54)
  have n1 := World.alloc_heap_new w (.cells #[.int .i64 (n : Int), .slice none 0 0, .slice none 0 0] 54)
  have s1 := World.size_alloc w (.cells #[.int .i64 (n : Int), .slice none 0 0, .slice none 0 0] 54)
  generalize w.alloc (.cells #[.int .i64 (n : Int), .slice none 0 0, .slice none 0 0] 54) = w1 at *
  have a2 := al1 w1 (.cells #[.pointer (some ⟨w.heap.size, 0, none⟩)] 25)
  have n2 := World.alloc_heap_new w1 (.cells #[.pointer (some ⟨w.heap.size, 0, none⟩)] 25)
  have s2 := World.size_alloc w1 (.cells #[.pointer (some ⟨w.heap.size, 0, none⟩)] 25)
  generalize w1.alloc (.cells #[.pointer (some ⟨w.heap.size, 0, none⟩)] 25) = w2 at *
  have a3 := al1 w2 (.map #[] 0)
  have n3 : Mp (w2.alloc (.map #[] 0)) 60 .u64 3 .i64 w2.heap.size 0 (fun _ => none) := Mp.made w2
  have s3 := World.size_alloc w2 (.map #[] 0)
  generalize w2.alloc (.map #[] 0) = w3 at *
  have a4 := al1 w3 (.cells #[.map (some (w.heap.size + 1 + 1))] 55)
  have n4 := World.alloc_heap_new w3 (.cells #[.map (some (w.heap.size + 1 + 1))] 55)
  have s4 := World.size_alloc w3 (.cells #[.map (some (w.heap.size + 1 + 1))] 55)
  generalize w3.alloc (.cells #[.map (some (w.heap.size + 1 + 1))] 55) = w4 at *
  have a5 := al1 w4 (.cells #[.slice sao L cap] 22)
  have n5 := World.alloc_heap_new w4 (.cells #[.slice sao L cap] 22)
  have s5 := World.size_alloc w4 (.cells #[.slice sao L cap] 22)
  generalize w4.alloc (.cells #[.slice sao L cap] 22) = w5 at *
  subst h5
  have b4 := nx a5 hb
  have b3 := nx a4 b4
  have b2 := nx a3 b3
  have b1 := nx a2 b2
  have b0 := nx a1 b1
  have e1 : w1.heap.size = w.heap.size + 1 := by omega
  have e2 : w2.heap.size = w.heap.size + 2 := by omega
  have e3 : w3.heap.size = w.heap.size + 3 := by omega
  have e4 : w4.heap.size = w.heap.size + 4 := by omega
  refine ⟨by omega, ⟨[], .slice none 0 0, .slice none 0 0, rfl, ⟨b0, (b1.block _ (by omega)).trans n1, ?_, ?_, ?_, World.ownsRow_nil _ _ _ _, World.ownsRow_nil _ _ _ _, fun i hi => (by simp at hi), fun i j hi => (by simp at hi), Nat.le_refl _⟩⟩, ?_⟩
  · rw [← e1]; exact (b2.block _ (by omega)).trans n2
  · rw [← e3]; exact (b4.block _ (by omega)).trans n4
  · rw [← e2, show msOf [] = [] from rfl, fM_nil]; exact n3.later b3
  · refine cell_at (cs := #[.slice sao L cap]) (t := 22) (fz := (0, 0)) ?_ rfl
    rw [show w.heap.size + 1 + 1 + 1 + 1 = w4.heap.size by omega]
    exact (hb.block _ (by omega)).trans n5
end Go.Proofs.Ytbkcbclloemajaa
