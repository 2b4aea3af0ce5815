/- known of the law folder; plain facts on roots; TagRoots. -/
import Derived.Laws.BytesArg
import Derived.Lib.SlBytesConst
import Derived.Test.YtbeihgjonhgfmaaGreatDoorTgd
namespace Go.Proofs.YtbeihgjonhgfmaaGreatDoor
open Go.RowKit Go.Shelf

theorem canon_ok {s t : List UInt8} (h : G.canon s = some t) (w : World) (hA : AF w) : Calls Tryz.prog 23 #[tx s] w fun e W' => e = .returned (.tuple #[tx t, .int .i64 0]) ∧ Below w.heap.size w W' := by
  have hl : s.length ≤ 40 := by
    unfold G.canon at h
    split at h
    · cases h
    · omega
  refine (canon_any s (by omega) w hA).mono ?_
  rintro e W' ⟨⟨t', ht, rfl⟩ | ⟨ht, _⟩, hb⟩
  · rw [h] at ht
    cases ht
    exact ⟨rfl, hb⟩
  · rw [h] at ht; cases ht
theorem canon_no {s : List UInt8} (h : G.canon s = none) (hl : s.length ≤ 9223372036854775807) (w : World) (hA : AF w) : Calls Tryz.prog 23 #[tx s] w fun e W' => e = .returned (.tuple #[tx [], .int .i64 100]) ∧ Below w.heap.size w W' := by
  refine (canon_any s hl w hA).mono ?_
  rintro e W' ⟨⟨t', ht, _⟩ | ⟨_, rfl⟩, hb⟩
  · rw [h] at ht; cases ht
  · exact ⟨rfl, hb⟩
/-- string(b) of a row of four. -/
theorem conv4 {w : World} {g : Nat} {a b c d : UInt8} (h : w.heap[g]? = some (.cells #[U8 a, U8 b, U8 c, U8 d] 5 (4, 5))) : (convert 54 9 (.slice (some ⟨g, 0, none⟩) 4 4)).run Tryz.prog w = .ok (.string ⟨#[a, b, c, d]⟩) w := by
  have := run_convert_bytes_arg (P := Tryz.prog) (w := w) 54 5 Tryz.underlying54 Tryz.underlying5 g 0 4 4 ([a, b, c, d].map fun c => (c.toNat : Int)) (by simp) (fun i hi => by
    match i, hi with
    | 0, _ => simp [World.cell?, h]
    | 1, _ => simp [World.cell?, h]
    | 2, _ => simp [World.cell?, h]
    | 3, _ => simp [World.cell?, h]) 9 Tryz.underlying9
  rw [this]
  simp [strOfNums]
/-- Between the rounds: a row of root's letters, of either case; from a place on they are small. -/
def RtO (w : World) (g i : Nat) (A : World) : Prop := ∃ a b c d : UInt8, A.heap[g]? = some (.cells #[U8 a, U8 b, U8 c, U8 d] 5 (4, 5)) ∧ [a, b, c, d].map G.lo = G.rootB ∧ (i ≤ 0 → a = 114) ∧ (i ≤ 1 → b = 111) ∧ (i ≤ 2 → c = 111) ∧ (i ≤ 3 → d = 116) ∧ Below w.heap.size w A
theorem root_us {l : List UInt8} (h : l.map G.lo = G.rootB) : G.canon (l ++ [45, 85, 83]) = none := by
  have hn := G.map_nosep h
  have hl : l.length = 4 := by have := congrArg List.length h; rw [List.length_map] at this; exact this
  unfold G.canon
  rw [if_neg (by simp; omega), if_neg (fun e => by have := congrArg List.length e; simp [G.rootB] at this; omega), G.cut_at hn (by rfl)]
  have : G.kind 0 l = 0 := by
    unfold G.kind G.lang G.run
    rw [if_pos rfl, decide_eq_false (show ¬ l.length ≤ 3 by omega)]
    simp
  rw [G.walk, if_pos this]
  rfl
theorem roots_law {t : List UInt8} (h : G.isT t = true) (hr : t ≠ G.rootB) : (G.parent t == G.rootB) = decide ((G.parts t).length = 1) := by
  obtain ⟨ps, hp, rfl, hl, hc⟩ := G.isT_cases h hr
  rw [show G.parts (G.join ps) = ps by unfold G.parts; rw [if_pos h, hc]]
  obtain ⟨x, xs, rfl, _⟩ := hp.first
  cases hxs : (x :: xs).reverse with
  | nil => simp at hxs
  | cons p qs =>
    have e : x :: xs = qs.reverse ++ [p] := by
      have := congrArg List.reverse hxs
      rw [List.reverse_reverse] at this
      rw [this]; simp
    rw [e] at hp hl ⊢
    by_cases hq : qs.reverse = []
    · rw [hq] at hp hl ⊢
      rw [List.nil_append] at hp hl ⊢
      rw [G.parent_one hp hl]
      rfl
    · obtain ⟨h1, h2, h3⟩ := G.parent_more hq hp hl
      rw [h1]
      have hn := h2.neroot
      have : qs.reverse.length ≠ 0 := fun h0 => hq (List.eq_nil_of_length_eq_zero h0)
      rw [decide_eq_false (by rw [List.length_append]; simp; simpa using this)]
      exact beq_eq_false_iff_ne.2 hn
end Go.Proofs.YtbeihgjonhgfmaaGreatDoor
