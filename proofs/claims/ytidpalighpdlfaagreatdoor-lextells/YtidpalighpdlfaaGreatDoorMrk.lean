/- mark of lex. -/
import Derived.Test.YtidpalighpdlfaaGreatDoorNmb
namespace Go.Proofs.YtidpalighpdlfaaGreatDoor
open Go.RowKit

/-- What X.nextL says of a sign of one or two bytes. -/
def markL (c : UInt8) (u : List UInt8) : Option (X.Tk × Nat) :=
  if (c = 62 ∧ u.head? = some 60) ∨ (c = 60 ∧ u.head? = some 62) then some (⟨6, (c :: u).take 2, 0⟩, 2)
  else if c ∈ X.signs then some (⟨6, [c], 0⟩, 1) else none
theorem pre_two (c a b : UInt8) (u : List UInt8) : Lib.hasPrefix (c :: u) [a, b] = decide (c = a ∧ u.head? = some b) := by
  unfold Lib.hasPrefix
  cases u with
  | nil => simp [List.isPrefixOf]
  | cons x l =>
    rw [Bool.eq_iff_iff]
    simp [List.isPrefixOf]
    constructor
    · rintro ⟨h1, h2⟩; exact ⟨h1.symm, h2.symm⟩
    · rintro ⟨h1, h2⟩; exact ⟨h1.symm, h2.symm⟩
theorem idx_mem (c : UInt8) : ∀ (l : List UInt8), (c ∈ l ∧ 0 ≤ Lib.indexByte l c) ∨ (c ∉ l ∧ Lib.indexByte l c = -1)
  | [] => .inr ⟨by simp, rfl⟩
  | b :: l => by
    by_cases h : b = c
    · refine .inl ⟨by simp [h], ?_⟩
      simp [Lib.indexByte, h]
    · have hb : (b == c) = false := by simp [h]
      rcases idx_mem c l with ⟨h1, h2⟩ | ⟨h1, h2⟩
      · refine .inl ⟨by simp [h1], ?_⟩
        have hn : (Lib.indexByte l c == -1) = false := by rw [beq_eq_false_iff_ne]; omega
        simp only [Lib.indexByte, hb, hn, Bool.false_eq_true, if_false]
        omega
      · refine .inr ⟨?_, ?_⟩
        · simp [h1]
          exact fun e => h e.symm
        · simp [Lib.indexByte, hb, h2]
theorem sig_eq : bts ⟨#[91, 93, 40, 41, 124, 42, 43, 63, 46, 94, 45, 58, 61]⟩ = X.signs := rfl
theorem c_back (c : UInt8) : (c.toNat : Int).toNat.toUInt8 = c := by simp
set_option maxHeartbeats 2000000 in
theorem mark_lex (s : ByteArray) (hs : s.size ≤ 100000) (c : UInt8) (u : List UInt8) (hcu : bts s = c :: u) (w : World) : Calls Tryz.prog 40 #[.string s] w fun e w' => AnsT (markL c u) 0 e ∧ Below w.heap.size w w' := by
  have hl : 0 < (bts s).length := by rw [hcu]; simp
  have h0 : 0 < s.size := hl
  have hx2 : ∀ h, s[0]'h = c := fun h => (idx_at (s := s) hl ((0 : Nat) : Int) rfl h).trans (by simp [hcu])
  have hp1 := pre_any s ⟨#[62, 60]⟩ (w.alloc room)
  have hp2 := pre_any s ⟨#[60, 62]⟩ (w.alloc room)
  rw [show bts ⟨#[62, 60]⟩ = [62, 60] from rfl, hcu, pre_two] at hp1
  rw [show bts ⟨#[60, 62]⟩ = [60, 62] from rfl, hcu, pre_two] at hp2
  have hix := idxb_any ⟨#[91, 93, 40, 41, 124, 42, 43, 63, 46, 94, 45, 58, 61]⟩ (c.toNat : Int) (w.alloc room)
  rw [sig_eq, c_back] at hix
  have hmem := idx_mem c X.signs
  have ht1 : bts (s.extract 0 1) = [c] := by rw [bts_take, hcu]; rfl
  have ht2 : bts (s.extract 0 2) = (c :: u).take 2 := by rw [bts_take, hcu]
  have hlen2 : ((c = 62 ∧ u.head? = some 60) ∨ (c = 60 ∧ u.head? = some 62)) → 2 ≤ s.size := by
    intro h
    have : 2 ≤ (bts s).length := by
      rw [hcu]
      cases u with
      | nil => simp at h
      | cons _ _ => simp
    exact this
  have HU : Hid (markL c u = if (c = 62 ∧ u.head? = some 60) ∨ (c = 60 ∧ u.head? = some 62) then some (⟨6, bts (s.extract 0 2), 0⟩, 2) else if c ∈ X.signs then some (⟨6, bts (s.extract 0 1), 0⟩, 1) else none) := hide (by
    unfold markL
    rw [ht1, ht2])
  clear ht1 ht2 hcu hl
  generalize markL c u = o at *
  have hnm1 := named_any 6 (s.extract 0 1) (by rw [ext_size _ _ _ (by omega)]; omega) (w.alloc room)
  have hr0 := heap_alloc_new w room
  obtain ⟨d0, d1, d2, d3⟩ := cells_four hr0
  have f0 := frozen_row hr0 0
  have f1 := frozen_row hr0 1
  have f2 := frozen_row hr0 2
  have f3 := frozen_row hr0 3
  by_cases h1 : c = 62 ∧ u.head? = some 60
  · rw [decide_eq_true h1] at hp1
    have h2 := hlen2 (.inl h1)
    have hnm2 := named_any 6 (s.extract 0 2) (by rw [ext_size _ _ _ h2]; omega) (w.alloc room)
    have HN : Hid (o = some (⟨6, bts (s.extract 0 2), 0⟩, 2)) := hide (by rw [HU.out, if_pos (.inl h1)])
    clear HU h1 hlen2 hmem hix hp2 hnm1 d0 d1 d2 d3 f0 f1 f2 f3 hr0
    go_enter Tryz.func40, Tryz.ntmps40
    go_wp2_with fail
    refine hp1.mono ?_
    rintro e w1 ⟨rfl, rfl⟩
    go_wp2_with fail
    refine hnm2.mono ?_
    rintro e w1 ⟨rfl, hb⟩
    obtain ⟨hr0, hbb⟩ := room_kept hb
    clear hb hnm2 hp1
    obtain ⟨d0, d1, d2, d3⟩ := cells_four hr0
    have f0 := frozen_row hr0 0
    have f1 := frozen_row hr0 1
    have f2 := frozen_row hr0 2
    have f3 := frozen_row hr0 3
    go_wp2
    exact bodyPost_ret (v := .tuple #[.agg #[.int .i64 6, .int .i64 0, .string (s.extract 0 2), .int .i32 0], .int .i64 2]) (by simp [results, Tryz.results40, go_sem, d0, d1, d2, d3]) rfl ⟨ansT_some HN.out, four_set hbb _ _ _ _⟩
  · rw [decide_eq_false h1] at hp1
    by_cases h3 : c = 60 ∧ u.head? = some 62
    · rw [decide_eq_true h3] at hp2
      have h2 := hlen2 (.inr h3)
      have hnm2 := named_any 6 (s.extract 0 2) (by rw [ext_size _ _ _ h2]; omega) (w.alloc room)
      have HN : Hid (o = some (⟨6, bts (s.extract 0 2), 0⟩, 2)) := hide (by rw [HU.out, if_pos (.inr h3)])
      clear HU h1 h3 hlen2 hmem hix hnm1 d0 d1 d2 d3 f0 f1 f2 f3 hr0
      go_enter Tryz.func40, Tryz.ntmps40
      go_wp2_with fail
      refine hp1.mono ?_
      rintro e w1 ⟨rfl, rfl⟩
      go_wp2_with fail
      refine hp2.mono ?_
      rintro e w1 ⟨rfl, rfl⟩
      go_wp2_with fail
      refine hnm2.mono ?_
      rintro e w1 ⟨rfl, hb⟩
      obtain ⟨hr0, hbb⟩ := room_kept hb
      clear hb hnm2 hp1 hp2
      obtain ⟨d0, d1, d2, d3⟩ := cells_four hr0
      have f0 := frozen_row hr0 0
      have f1 := frozen_row hr0 1
      have f2 := frozen_row hr0 2
      have f3 := frozen_row hr0 3
      go_wp2
      exact bodyPost_ret (v := .tuple #[.agg #[.int .i64 6, .int .i64 0, .string (s.extract 0 2), .int .i32 0], .int .i64 2]) (by simp [results, Tryz.results40, go_sem, d0, d1, d2, d3]) rfl ⟨ansT_some HN.out, four_set hbb _ _ _ _⟩
    · rw [decide_eq_false h3] at hp2
      have hno : ¬ ((c = 62 ∧ u.head? = some 60) ∨ (c = 60 ∧ u.head? = some 62)) := fun h => h.elim h1 h3
      generalize Lib.indexByte X.signs c = ix at *
      rcases hmem with ⟨hm, hi⟩ | ⟨hm, hi⟩
      · have HN : Hid (o = some (⟨6, bts (s.extract 0 1), 0⟩, 1)) := hide (by rw [HU.out, if_neg hno, if_pos hm])
        clear HU h1 h3 hlen2 hno hm d0 d1 d2 d3 f0 f1 f2 f3 hr0
        have el : decide (ix < 0) = false := decide_eq_false (by omega)
        go_enter Tryz.func40, Tryz.ntmps40
        go_wp2_with fail
        refine hp1.mono ?_
        rintro e w1 ⟨rfl, rfl⟩
        go_wp2_with fail
        refine hp2.mono ?_
        rintro e w1 ⟨rfl, rfl⟩
        go_wp2_with fail
        refine hix.mono ?_
        rintro e w1 ⟨rfl, rfl⟩
        go_wp2_with fail
        refine hnm1.mono ?_
        rintro e w1 ⟨rfl, hb⟩
        obtain ⟨hr0, hbb⟩ := room_kept hb
        clear hb hnm1 hp1 hp2 hix
        obtain ⟨d0, d1, d2, d3⟩ := cells_four hr0
        have f0 := frozen_row hr0 0
        have f1 := frozen_row hr0 1
        have f2 := frozen_row hr0 2
        have f3 := frozen_row hr0 3
        go_wp2
        exact bodyPost_ret (v := .tuple #[.agg #[.int .i64 6, .int .i64 0, .string (s.extract 0 1), .int .i32 0], .int .i64 1]) (by simp [results, Tryz.results40, go_sem, d0, d1, d2, d3]) rfl ⟨ansT_some HN.out, four_set hbb _ _ _ _⟩
      · have HN : Hid (o = none) := hide (by rw [HU.out, if_neg hno, if_neg hm])
        subst hi
        clear HU h1 h3 hlen2 hno hm
        go_enter Tryz.func40, Tryz.ntmps40
        go_wp2_with fail
        refine hp1.mono ?_
        rintro e w1 ⟨rfl, rfl⟩
        go_wp2_with fail
        refine hp2.mono ?_
        rintro e w1 ⟨rfl, rfl⟩
        go_wp2_with fail
        refine hix.mono ?_
        rintro e w1 ⟨rfl, rfl⟩
        go_wp2
        exact bodyPost_ret (v := .tuple #[tokV tz 0, .int .i64 0]) (by unfold tokV; simp [results, Tryz.results40, go_sem, d0, d1, d2, d3, tz]) rfl ⟨ansT_none HN.out, al1 w room⟩
end Go.Proofs.YtidpalighpdlfaaGreatDoor
