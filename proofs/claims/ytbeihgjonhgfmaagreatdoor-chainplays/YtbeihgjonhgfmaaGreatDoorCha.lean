/- Plain facts on forests of locales: rows of tags with their named parents, who is next, chains, checks, who is under one. -/
import Derived.Sort.KeysCollected
import Derived.Test.YtbeihgjonhgfmaaGreatDoorTga
namespace Go.Proofs.YtbeihgjonhgfmaaGreatDoor
open Go.RowKit
namespace C
abbrev Tx := List UInt8
/-! the order of bytes -/
theorem bb_irrefl : ∀ a : Tx, bytesBefore a a = false
  | [] => rfl
  | a :: r => by simp [bytesBefore, bb_irrefl r]
theorem bb_trans : ∀ a b c : Tx, bytesBefore a b = true → bytesBefore b c = true → bytesBefore a c = true
  | [], [], _, h, _ => by simp [bytesBefore] at h
  | [], _ :: _, [], _, h => by simp [bytesBefore] at h
  | [], _ :: _, _ :: _, _, _ => rfl
  | _ :: _, [], _, h, _ => by simp [bytesBefore] at h
  | _ :: _, _ :: _, [], _, h => by simp [bytesBefore] at h
  | a :: r, b :: s, c :: t, h1, h2 => by
    simp only [bytesBefore, Bool.or_eq_true, decide_eq_true_eq, Bool.and_eq_true, beq_iff_eq] at h1 h2 ⊢
    rcases h1 with h1 | ⟨rfl, h1⟩
    · rcases h2 with h2 | ⟨rfl, h2⟩
      · exact .inl (UInt8.lt_trans h1 h2)
      · exact .inl h1
    · rcases h2 with h2 | ⟨rfl, h2⟩
      · exact .inl h2
      · exact .inr ⟨rfl, bb_trans r s t h1 h2⟩
theorem bb_total : ∀ a b : Tx, bytesBefore a b = false → a ≠ b → bytesBefore b a = true
  | [], [], _, h => absurd rfl h
  | [], _ :: _, h, _ => by simp [bytesBefore] at h
  | _ :: _, [], _, _ => rfl
  | a :: r, b :: s, h1, h2 => by
    simp only [bytesBefore, Bool.or_eq_false_iff, decide_eq_false_iff_not, Bool.and_eq_false_imp, beq_iff_eq] at h1
    simp only [bytesBefore, Bool.or_eq_true, decide_eq_true_eq, Bool.and_eq_true, beq_iff_eq]
    by_cases hab : a = b
    · subst hab
      exact .inr ⟨rfl, bb_total r s (h1.2 rfl) (fun e => h2 (by rw [e]))⟩
    · exact .inl (by
        have h3 := h1.1
        rcases UInt8.lt_or_lt_of_ne hab with h | h
        · exact absurd h h3
        · exact h)
theorem bb_lt : ∀ a b : Tx, bytesBefore a b = true ↔ a < b
  | [], [] => by simp [bytesBefore]
  | [], _ :: _ => by simp [bytesBefore]
  | _ :: _, [] => by simp [bytesBefore]
  | a :: r, b :: s => by
    rw [List.cons_lt_cons_iff]
    simp only [bytesBefore, Bool.or_eq_true, decide_eq_true_eq, Bool.and_eq_true, beq_iff_eq, bb_lt r s]
theorem bb_le {a b : Tx} (h : bytesBefore a b = true) : a ≤ b := List.le_of_lt ((bb_lt a b).1 h)
theorem bb_ne {a b : Tx} (h : bytesBefore a b = true) : a ≠ b := fun e => by rw [e, bb_irrefl] at h; cases h
theorem bb_asymm {a b : Tx} (h : bytesBefore a b = true) : bytesBefore b a = false := by
  cases h2 : bytesBefore b a with
  | false => rfl
  | true => have := bb_trans _ _ _ h h2; rw [bb_irrefl] at this; cases this
/-! rows -/
abbrev Row := List (Tx × Tx)
def Srt (L : Row) : Prop := L.Pairwise fun a b => bytesBefore a.1 b.1 = true
def get (L : Row) (x : Tx) : Option Tx := (L.find? fun y => y.1 == x).map (·.2)
def has (L : Row) (x : Tx) : Bool := L.any fun y => y.1 == x
def ins (x : Tx × Tx) : Row → Row
  | [] => [x]
  | y :: r => if bytesBefore x.1 y.1 then x :: y :: r else y :: ins x r
def del (L : Row) (k : Tx) : Row := L.filter fun y => !(y.1 == k)
def put (L : Row) (k p : Tx) : Row := ins (k, p) (del L k)
def ks (L : Row) : List Tx := L.map (·.1)
theorem get_none {L : Row} {x : Tx} : get L x = none ↔ has L x = false := by
  unfold get has
  rw [Option.map_eq_none_iff, List.find?_eq_none, List.any_eq_false]
theorem get_has {L : Row} {x : Tx} : (get L x).isSome = has L x := by
  cases h : get L x with
  | none => rw [get_none.1 h]; rfl
  | some p =>
    cases h2 : has L x with
    | true => rfl
    | false => rw [get_none.2 h2] at h; cases h
theorem has_ks {L : Row} {x : Tx} : has L x = true ↔ x ∈ ks L := by
  unfold has ks
  rw [List.any_eq_true, List.mem_map]
  constructor
  · rintro ⟨y, hy, h⟩; exact ⟨y, hy, by simpa using h⟩
  · rintro ⟨y, hy, h⟩; exact ⟨y, hy, by simpa using h⟩
theorem mem_ins {x y : Tx × Tx} : ∀ {L : Row}, y ∈ ins x L ↔ y = x ∨ y ∈ L
  | [] => by simp [ins]
  | z :: r => by
    unfold ins
    split
    · simp
    · simp only [List.mem_cons, mem_ins (L := r)]
      constructor
      · rintro (h | h | h)
        · exact .inr (.inl h)
        · exact .inl h
        · exact .inr (.inr h)
      · rintro (h | h | h)
        · exact .inr (.inl h)
        · exact .inl h
        · exact .inr (.inr h)
theorem srt_del {L : Row} (h : Srt L) (k : Tx) : Srt (del L k) := List.Pairwise.filter _ h
theorem srt_ins {x : Tx × Tx} : ∀ {L : Row}, Srt L → (∀ y ∈ L, y.1 ≠ x.1) → Srt (ins x L)
  | [], _, _ => by simp [ins, Srt]
  | z :: r, h, hn => by
    have h' := List.pairwise_cons.1 h
    unfold ins
    split
    · rename_i hb
      refine List.pairwise_cons.2 ⟨fun y hy => ?_, h⟩
      rcases List.mem_cons.1 hy with rfl | hy
      · exact hb
      · exact bb_trans _ _ _ hb (h'.1 y hy)
    · rename_i hb
      refine List.pairwise_cons.2 ⟨fun y hy => ?_, srt_ins h'.2 fun y hy => hn y (by simp [hy])⟩
      rcases mem_ins.1 hy with rfl | hy
      · exact bb_total _ _ (by simpa using hb) (fun e => hn z (by simp) e.symm)
      · exact h'.1 y hy
theorem mem_del {L : Row} {k : Tx} {y : Tx × Tx} : y ∈ del L k ↔ y ∈ L ∧ y.1 ≠ k := by
  unfold del; rw [List.mem_filter]; simp
theorem srt_put {L : Row} (h : Srt L) (k p : Tx) : Srt (put L k p) := srt_ins (srt_del h k) fun _ hy => (mem_del.1 hy).2
theorem mem_put {L : Row} {k p : Tx} {y : Tx × Tx} : y ∈ put L k p ↔ y = (k, p) ∨ (y ∈ L ∧ y.1 ≠ k) := by
  unfold put; rw [mem_ins, mem_del]
theorem len_ins (x : Tx × Tx) : ∀ L : Row, (ins x L).length = L.length + 1
  | [] => rfl
  | y :: r => by unfold ins; split <;> simp [len_ins x r]
theorem len_put (L : Row) (k p : Tx) : (put L k p).length ≤ L.length + 1 := by
  unfold put del; rw [len_ins]; have := List.length_filter_le (fun y : Tx × Tx => !(y.1 == k)) L; omega
theorem len_del (L : Row) (k : Tx) : (del L k).length ≤ L.length := List.length_filter_le _ _
theorem srt_uniq {L : Row} (h : Srt L) {y z : Tx × Tx} (hy : y ∈ L) (hz : z ∈ L) (e : y.1 = z.1) : y = z := by
  induction L with
  | nil => cases hy
  | cons a r ih =>
    have h' := List.pairwise_cons.1 h
    rcases List.mem_cons.1 hy with e1 | hy1
    · rcases List.mem_cons.1 hz with e2 | hz1
      · rw [e1, e2]
      · subst e1; exact absurd e (bb_ne (h'.1 z hz1))
    · rcases List.mem_cons.1 hz with e2 | hz1
      · subst e2; exact absurd e.symm (bb_ne (h'.1 y hy1))
      · exact ih h'.2 hy1 hz1
theorem get_mem {L : Row} (h : Srt L) {k p : Tx} : get L k = some p ↔ (k, p) ∈ L := by
  unfold get
  rw [Option.map_eq_some_iff]
  constructor
  · rintro ⟨y, hy, rfl⟩
    have h1 := List.find?_some hy
    have h2 := List.mem_of_find?_eq_some hy
    simp at h1
    rw [← h1]; exact h2
  · intro hm
    cases hf : L.find? (fun y => y.1 == k) with
    | none => rw [List.find?_eq_none] at hf; exact absurd (by simp) (hf (k, p) hm)
    | some y =>
      have h1 := List.find?_some hf
      have h2 := List.mem_of_find?_eq_some hf
      simp at h1
      exact ⟨y, rfl, by rw [srt_uniq h h2 hm h1]⟩
theorem get_put {L : Row} (h : Srt L) (k p x : Tx) : get (put L k p) x = if x = k then some p else get L x := by
  have hs := srt_put h k p
  by_cases e : x = k
  · subst e
    rw [if_pos rfl, get_mem hs, mem_put]; exact .inl rfl
  · rw [if_neg e]
    cases hg : get L x with
    | none =>
      rw [get_none] at hg ⊢
      cases hh : has (put L k p) x with
      | false => rfl
      | true =>
        obtain ⟨y, hy, rfl⟩ := List.mem_map.1 (has_ks.1 hh)
        rcases mem_put.1 hy with rfl | ⟨hy, _⟩
        · exact absurd rfl e
        · have := has_ks.2 (List.mem_map.2 ⟨y, hy, rfl⟩); rw [hg] at this; cases this
    | some q =>
      rw [get_mem hs, mem_put]
      exact .inr ⟨(get_mem h).1 hg, e⟩
theorem get_del {L : Row} (h : Srt L) (k x : Tx) : get (del L k) x = if x = k then none else get L x := by
  have hs := srt_del h k
  by_cases e : x = k
  · subst e
    rw [if_pos rfl, get_none]
    cases hh : has (del L x) x with
    | false => rfl
    | true =>
      obtain ⟨y, hy, he⟩ := List.mem_map.1 (has_ks.1 hh)
      exact absurd he (mem_del.1 hy).2
  · rw [if_neg e]
    cases hg : get L x with
    | none =>
      rw [get_none] at hg ⊢
      cases hh : has (del L k) x with
      | false => rfl
      | true =>
        obtain ⟨y, hy, rfl⟩ := List.mem_map.1 (has_ks.1 hh)
        have := has_ks.2 (List.mem_map.2 ⟨y, (mem_del.1 hy).1, rfl⟩); rw [hg] at this; cases this
    | some q =>
      rw [get_mem hs, mem_del]
      exact ⟨(get_mem h).1 hg, e⟩
theorem ks_srt {L : Row} (h : Srt L) : (ks L).Pairwise fun a b => bytesBefore a b = true := List.pairwise_map.2 h
theorem ks_nodup {L : Row} (h : Srt L) : (ks L).Nodup := (ks_srt h).imp fun hb => bb_ne hb
theorem ks_sorted {L : Row} (h : Srt L) : (ks L).mergeSort leB = ks L :=
  List.mergeSort_of_pairwise ((ks_srt h).imp fun hb => by simp only [leB, decide_eq_true_eq]; exact bb_le hb)
/-! who is above -/
def upsF : Nat → Tx → List Tx
  | 0, _ => []
  | n + 1, t => if G.parent t = [] then [] else G.parent t :: upsF n (G.parent t)
def ups (t : Tx) : List Tx := upsF 50 t
def rank (t : Tx) : Nat := if t = [] then 0 else if t = G.rootB then 1 else t.length + 1
def next (L : Row) (x : Tx) : Tx × Bool × Nat := match get L x with
  | none => ([], false, 240)
  | some p => if p = [] then (match (ups x).find? (has L) with | some u => (u, true, 0) | none => ([], false, 0)) else if has L p then (p, true, 0) else ([], false, 110)
def room (one : Tx) (met : List Tx) : Nat := if met.contains one then 111 else if 6 ≤ met.length then 112 else 0
def go (L : Row) : Nat → List Tx → Tx → List Tx × Nat
  | 0, _, _ => ([], 112)
  | n + 1, met, one => match next L one with
    | (t, more, e) => if more then (if room t (met ++ [one]) = 0 then go L n (met ++ [one]) t else ([], room t (met ++ [one]))) else if e = 0 then (met ++ [one], 0) else ([], e)
def chain (L : Row) (x : Tx) : List Tx × Nat := if has L x then go L 7 [] x else ([], 240)
def check (L : Row) : Tx × Nat := match (ks L).find? (fun k => !((chain L k).2 == 0)) with
  | some k => (k, (chain L k).2)
  | none => ([], 0)
def under (L : Row) (x : Tx) : List Tx := (ks L).filter fun k => (chain L k).2 == 0 && (!(k == x) && (chain L k).1.contains x)
end C
end Go.Proofs.YtbeihgjonhgfmaaGreatDoor
