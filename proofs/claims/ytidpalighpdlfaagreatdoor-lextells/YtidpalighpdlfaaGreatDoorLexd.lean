/- Signs: what a scan tells; what is printed is read as the same signs; what stands behind a text and is none. -/
import Derived.Test.YtidpalighpdlfaaGreatDoorLexc
namespace Go.Proofs.YtidpalighpdlfaaGreatDoor
namespace X
open M

def tEnd : Tk := ⟨0, [], 0⟩
/-- One sign more is printed. -/
def prF (s : List UInt8) (t : Tk) : List UInt8 :=
  if t.kind = 7 then s ++ [10]
  else match one t with
    | none => s
    | some o => if s ≠ [] ∧ s.getLast? ≠ some 10 then s ++ 32 :: o else s ++ o
def printL (l : List Tk) : List UInt8 := l.foldl prF []
/-- What is printed behind; b: a blank is wanted first. -/
def tailP : Bool → List Tk → List UInt8
  | _, [] => []
  | b, t :: ts => if t.kind = 7 then 10 :: tailP false ts else match one t with
    | none => tailP b ts
    | some o => (if b then 32 :: o else o) ++ tailP true ts
def sp (s : List UInt8) : Bool := decide (s ≠ [] ∧ s.getLast? ≠ some 10)
theorem sp_app {s o : List UInt8} (ho : o ≠ []) (hl : o.getLast? ≠ some 10) : sp (s ++ o) = true := by
  unfold sp
  refine decide_eq_true ⟨by simp [ho], ?_⟩
  rw [List.getLast?_append]
  cases h : o.getLast? with
  | none => exact absurd (List.getLast?_eq_none_iff.1 h) ho
  | some x => rw [h] at hl; simpa using hl
theorem print_tail : ∀ (ts : List Tk), (∀ t ∈ ts, V t ∨ t = tEnd) → ∀ s, ts.foldl prF s = s ++ tailP (sp s) ts
  | [], _, s => by simp [tailP]
  | t :: ts, h, s => by
    rw [List.foldl_cons]
    have ih := print_tail ts fun x hx => h x (by simp [hx])
    rcases h t (by simp) with hv | rfl
    · by_cases hk : t.kind = 7
      · have e1 : prF s t = s ++ [10] := by unfold prF; rw [if_pos hk]
        unfold tailP
        rw [e1, if_pos hk, ih]
        have : sp (s ++ [10]) = false := by simp [sp]
        rw [this]
        simp
      · obtain ⟨c, o, ho, _, _, _, _, hl⟩ := one_V hv hk
        have e1 : prF s t = if s ≠ [] ∧ s.getLast? ≠ some 10 then s ++ 32 :: c :: o else s ++ c :: o := by unfold prF; rw [if_neg hk, ho]
        unfold tailP
        rw [e1, if_neg hk, ho]
        simp only
        by_cases hs : s ≠ [] ∧ s.getLast? ≠ some 10
        · have e : sp s = true := decide_eq_true hs
          rw [if_pos hs, ih, e, if_pos rfl]
          have : sp (s ++ 32 :: c :: o) = true := sp_app (by simp) (by rw [List.getLast?_cons_cons]; exact hl)
          rw [this]
          simp
        · have e : sp s = false := decide_eq_false hs
          rw [if_neg hs, ih, e]
          have : sp (s ++ c :: o) = true := sp_app (by simp) hl
          rw [this]
          simp
    · show ts.foldl prF s = s ++ tailP (sp s) ts
      exact ih s
theorem tail_stop : ∀ (ts : List Tk), (∀ t ∈ ts, V t ∨ t = tEnd) → Stop (tailP true ts)
  | [], _ => .inl rfl
  | t :: ts, h => by
    rcases h t (by simp) with hv | rfl
    · by_cases hk : t.kind = 7
      · unfold tailP
        rw [if_pos hk]
        exact .inr ⟨10, _, rfl, by decide⟩
      · obtain ⟨c, o, ho, _⟩ := one_V hv hk
        unfold tailP
        rw [if_neg hk, ho]
        exact .inr ⟨32, _, rfl, by decide⟩
    · exact tail_stop ts fun x hx => h x (by simp [hx])
theorem V7 {t : Tk} (h : V t) (hk : t.kind = 7) : t = ⟨7, [], 0⟩ := by cases h <;> first | rfl | (simp at hk)
theorem next_line (v : List UInt8) : nextL (10 :: v) = some (⟨7, [], 0⟩, 1) := by unfold nextL; simp
/-- What is printed is read as the same signs. -/
theorem scan_tail : ∀ (ts : List Tk), (∀ t ∈ ts, V t) → ∀ (b : Bool) (at_ : Nat), ∃ ps : List Nat, ps.length = ts.length ∧ scan at_ (tailP b ts) = .ok (ts.zip ps ++ [(tEnd, at_ + (tailP b ts).length)])
  | [], _, _, at_ => ⟨[], rfl, rfl⟩
  | t :: ts, h, b, at_ => by
    have hv := h t (by simp)
    have hts : ∀ x ∈ ts, V x := fun x hx => h x (by simp [hx])
    by_cases hk : t.kind = 7
    · obtain rfl := V7 hv hk
      obtain ⟨ps, h1, h2⟩ := scan_tail ts hts false (at_ + 1)
      refine ⟨at_ :: ps, by simp [h1], ?_⟩
      unfold tailP
      rw [if_pos hk, scan_some at_ _ (by decide) (by decide) (next_line _), List.drop_succ_cons, List.drop_zero, h2]
      simp [Except.map, Nat.add_assoc, Nat.add_comm]
    · obtain ⟨c, o, ho, hb, h35, _, hn, _⟩ := one_V hv hk
      have hst := tail_stop ts fun x hx => .inl (hts x hx)
      have hne := next_ext hn hst
      rw [List.cons_append] at hne
      have key : ∀ at_, ∃ ps : List Nat, ps.length = (t :: ts).length ∧ scan at_ (c :: (o ++ tailP true ts)) = .ok ((t :: ts).zip ps ++ [(tEnd, at_ + (c :: (o ++ tailP true ts)).length)]) := fun at_ => by
        obtain ⟨ps, h1, h2⟩ := scan_tail ts hts true (at_ + (c :: o).length)
        refine ⟨at_ :: ps, by simp [h1], ?_⟩
        rw [scan_some at_ _ hb h35 hne, show (c :: (o ++ tailP true ts)).drop (c :: o).length = tailP true ts by simp, h2]
        simp [Except.map, Nat.add_assoc, Nat.add_comm, Nat.add_left_comm]
      unfold tailP
      rw [if_neg hk, ho]
      simp only
      cases b with
      | true =>
        obtain ⟨ps, h1, h2⟩ := key (at_ + 1)
        refine ⟨ps, h1, ?_⟩
        rw [if_pos rfl, List.cons_append, scan_blank at_ _ (by decide), List.cons_append, h2]
        simp [Nat.add_assoc, Nat.add_comm, Nat.add_left_comm]
      | false =>
        obtain ⟨ps, h1, h2⟩ := key at_
        refine ⟨ps, h1, ?_⟩
        rw [if_neg (by decide), List.cons_append, h2]

/-- What a scan tells. -/
theorem scan_out : ∀ (at_ : Nat) (s : List UInt8), (∀ l, scan at_ s = .ok l → ∃ l', l = l' ++ [(tEnd, at_ + s.length)] ∧ (∀ p ∈ l', V p.1 ∧ at_ ≤ p.2 ∧ p.2 < at_ + s.length) ∧ l'.Pairwise (fun x y => x.2 < y.2)) ∧ (∀ k, scan at_ s = .error k → at_ ≤ k ∧ k < at_ + s.length) := by
  refine scan_ind ?_ ?_ ?_ ?_ ?_
  · intro at_
    refine ⟨fun l h => ?_, fun k h => ?_⟩
    · rw [scan_nil] at h; cases h
      exact ⟨[], rfl, by simp, List.Pairwise.nil⟩
    · rw [scan_nil] at h; cases h
  · intro at_ c u hb ih
    rw [scan_blank at_ u hb]
    refine ⟨fun l h => ?_, fun k h => ?_⟩
    · obtain ⟨l', rfl, h1, h2⟩ := ih.1 l h
      refine ⟨l', by rw [show at_ + 1 + u.length = at_ + (c :: u).length by simp only [List.length_cons]; omega], fun p hp => ?_, h2⟩
      have := h1 p hp
      exact ⟨this.1, by omega, by simp only [List.length_cons]; omega⟩
    · have := ih.2 k h
      simp only [List.length_cons]
      omega
  · intro at_ u ih
    have hp := com_pos u
    have hl := takeWhile_le (· ≠ 10) (35 :: u)
    rw [scan_com]
    generalize ((35 :: u).takeWhile (· ≠ 10)).length = k at *
    rw [List.length_drop] at ih
    refine ⟨fun l h => ?_, fun q h => ?_⟩
    · obtain ⟨l', rfl, h1, h2⟩ := ih.1 l h
      refine ⟨l', by rw [show at_ + k + ((35 :: u).length - k) = at_ + (35 :: u).length by omega], fun p hp => ?_, h2⟩
      have := h1 p hp
      refine ⟨this.1, by omega, by omega⟩
    · have := ih.2 q h
      omega
  · intro at_ c u hb h35 hn
    rw [scan_none at_ u hb h35 hn]
    refine ⟨fun l h => (by cases h), fun k h => ?_⟩
    cases h
    simp
  · intro at_ c u t n hb h35 hn ih
    have hsz := next_size hn
    rw [scan_some at_ u hb h35 hn]
    rw [List.length_drop] at ih
    refine ⟨fun l h => ?_, fun q h => ?_⟩
    · cases hs : scan (at_ + n) ((c :: u).drop n) with
      | error e => rw [hs] at h; cases h
      | ok l2 =>
        rw [hs] at h
        cases h
        obtain ⟨l', rfl, h1, h2⟩ := ih.1 l2 hs
        refine ⟨(t, at_) :: l', by rw [show at_ + n + ((c :: u).length - n) = at_ + (c :: u).length by omega]; rfl, fun p hp => ?_, ?_⟩
        · rcases List.mem_cons.1 hp with rfl | hp
          · exact ⟨next_V hn, Nat.le_refl _, by simp only; omega⟩
          · have := h1 p hp
            exact ⟨this.1, by omega, by omega⟩
        · refine List.pairwise_cons.2 ⟨fun p hp => ?_, h2⟩
          have := h1 p hp
          simp only
          omega
    · cases hs : scan (at_ + n) ((c :: u).drop n) with
      | error e =>
        rw [hs] at h
        cases h
        have := ih.2 _ hs
        omega
      | ok l2 => rw [hs] at h; cases h
/-- P6.3. -/
theorem back {s : List UInt8} {l : List (Tk × Nat)} (h : scan 0 s = .ok l) : ∃ l2, scan 0 (printL (l.map (·.1))) = .ok l2 ∧ l2.map (·.1) = l.map (·.1) := by
  obtain ⟨l', rfl, h1, _⟩ := (scan_out 0 s).1 l h
  have hv : ∀ t ∈ l'.map (·.1), V t := fun t ht => by
    obtain ⟨p, hp, rfl⟩ := List.mem_map.1 ht
    exact (h1 p hp).1
  have e : printL ((l' ++ [(tEnd, 0 + s.length)]).map (·.1)) = tailP false (l'.map (·.1)) := by
    unfold printL
    rw [List.map_append, List.foldl_append, print_tail (l'.map (·.1)) (fun t ht => .inl (hv t ht)) []]
    rfl
  obtain ⟨ps, hp, hs⟩ := scan_tail (l'.map (·.1)) hv false 0
  refine ⟨_, by rw [e]; exact hs, ?_⟩
  rw [List.map_append, List.map_append]
  congr 1
  rw [List.map_fst_zip]
  omega

/-- What may stand behind a text and change nothing but the end's place. -/
structure Tail (v : List UInt8) : Prop where
  stop : Stop v
  feed : ∀ c ∈ v, c ≠ 10
  read : ∀ at_, scan at_ v = .ok [(tEnd, at_ + v.length)]
theorem scan_more {v : List UInt8} (hv : Tail v) : ∀ (at_ : Nat) (s : List UInt8) (l : List (Tk × Nat)), scan at_ s = .ok l → ∃ l', l = l' ++ [(tEnd, at_ + s.length)] ∧ scan at_ (s ++ v) = .ok (l' ++ [(tEnd, at_ + s.length + v.length)]) := by
  refine scan_ind (p := fun at_ s => ∀ l, scan at_ s = .ok l → ∃ l', l = l' ++ [(tEnd, at_ + s.length)] ∧ scan at_ (s ++ v) = .ok (l' ++ [(tEnd, at_ + s.length + v.length)])) ?_ ?_ ?_ ?_ ?_
  · intro at_ l h
    rw [scan_nil] at h
    cases h
    exact ⟨[], rfl, by rw [List.nil_append, hv.read]; rfl⟩
  · intro at_ c u hb ih l h
    rw [scan_blank at_ u hb] at h
    obtain ⟨l', rfl, h2⟩ := ih l h
    refine ⟨l', by rw [show at_ + 1 + u.length = at_ + (c :: u).length by simp only [List.length_cons]; omega], ?_⟩
    rw [List.cons_append, scan_blank at_ _ hb, h2, show at_ + 1 + u.length = at_ + (c :: u).length by simp only [List.length_cons]; omega]
  · intro at_ u ih l h
    have hp := com_pos u
    have hl := takeWhile_le (· ≠ 10) (35 :: u)
    rw [scan_com] at h
    rw [List.cons_append, scan_com]
    by_cases hk : ((35 :: u).takeWhile (· ≠ 10)).length < (35 :: u).length
    · have e : (35 :: (u ++ v)).takeWhile (· ≠ 10) = (35 :: u).takeWhile (· ≠ 10) := by
        rw [← List.cons_append, List.takeWhile_append]
        rw [if_neg (by omega)]
      rw [e, ← List.cons_append, List.drop_append_of_le_length (Nat.le_of_lt hk)]
      obtain ⟨l', rfl, h2⟩ := ih l h
      generalize ((35 :: u).takeWhile (· ≠ 10)).length = k at *
      rw [List.length_drop] at h2 ⊢
      refine ⟨l', by rw [show at_ + k + ((35 :: u).length - k) = at_ + (35 :: u).length by omega], ?_⟩
      rw [h2, show at_ + k + ((35 :: u).length - k) = at_ + (35 :: u).length by omega]
    · have hk2 : ((35 :: u).takeWhile (· ≠ 10)).length = (35 :: u).length := by omega
      have hall : (35 :: u).takeWhile (· ≠ 10) = 35 :: u := (List.takeWhile_sublist _).eq_of_length hk2
      have e : (35 :: (u ++ v)).takeWhile (· ≠ 10) = 35 :: (u ++ v) := by
        rw [← List.cons_append, List.takeWhile_append, if_pos hk2]
        congr 1
        have := tw_id (p := (· ≠ 10)) (d := v) (fun c hc => by simpa using hv.feed c hc) [] (.inl rfl)
        rwa [List.append_nil] at this
      rw [hk2, List.drop_length, scan_nil] at h
      cases h
      refine ⟨[], rfl, ?_⟩
      rw [e, List.drop_length, scan_nil]
      simp [tEnd, Nat.add_assoc, Nat.add_comm, Nat.add_left_comm]
  · intro at_ c u hb h35 hn l h
    rw [scan_none at_ u hb h35 hn] at h
    cases h
  · intro at_ c u t n hb h35 hn ih l h
    have hsz := next_size hn
    rw [scan_some at_ u hb h35 hn] at h
    cases hs : scan (at_ + n) ((c :: u).drop n) with
    | error e => rw [hs] at h; cases h
    | ok l2 =>
      rw [hs] at h
      cases h
      obtain ⟨l', rfl, h2⟩ := ih l2 hs
      have hne := next_ext hn hv.stop
      rw [List.cons_append] at hne ⊢
      rw [List.length_drop] at h2 ⊢
      refine ⟨(t, at_) :: l', by rw [show at_ + n + ((c :: u).length - n) = at_ + (c :: u).length by omega]; rfl, ?_⟩
      rw [scan_some at_ _ hb h35 hne, ← List.cons_append, List.drop_append_of_le_length (by simpa using hsz.2), h2, show at_ + n + ((c :: u).length - n) = at_ + (c :: u).length by omega]
      rfl
/-- Places move along. -/
theorem scan_shift (d : Nat) : ∀ (at_ : Nat) (s : List UInt8) (l : List (Tk × Nat)), scan at_ s = .ok l → scan (at_ + d) s = .ok (l.map fun p => (p.1, p.2 + d)) := by
  refine scan_ind (p := fun at_ s => ∀ l, scan at_ s = .ok l → scan (at_ + d) s = .ok (l.map fun p => (p.1, p.2 + d))) ?_ ?_ ?_ ?_ ?_
  · intro at_ l h
    rw [scan_nil] at h ⊢
    cases h
    rfl
  · intro at_ c u hb ih l h
    rw [scan_blank at_ u hb] at h
    rw [scan_blank _ u hb, show at_ + d + 1 = at_ + 1 + d by omega]
    exact ih l h
  · intro at_ u ih l h
    rw [scan_com] at h ⊢
    rw [show at_ + d + ((35 :: u).takeWhile (· ≠ 10)).length = at_ + ((35 :: u).takeWhile (· ≠ 10)).length + d by omega]
    exact ih l h
  · intro at_ c u hb h35 hn l h
    rw [scan_none at_ u hb h35 hn] at h
    cases h
  · intro at_ c u t n hb h35 hn ih l h
    rw [scan_some at_ u hb h35 hn] at h
    cases hs : scan (at_ + n) ((c :: u).drop n) with
    | error e => rw [hs] at h; cases h
    | ok l2 =>
      rw [hs] at h
      cases h
      rw [scan_some _ u hb h35 hn, show at_ + d + n = at_ + n + d by omega, ih l2 hs]
      rfl
end X
end Go.Proofs.YtidpalighpdlfaaGreatDoor
