/- Plain facts on tags: what a subtag is, how it is formed, how a text is cut and joined; what is canonical; parents. -/
import Derived.WalkKit
import Derived.WalkSpells
import Derived.WalkLawsBesides
import Derived.BigQuiet
import Derived.Test.YtbeihgjonhgfmaaGreatDoorProg
namespace Go.Proofs.YtbeihgjonhgfmaaGreatDoor
open Go.RowKit
namespace G
def isL (c : UInt8) : Bool := (decide (97 ≤ c.toNat) && decide (c.toNat ≤ 122)) || (decide (65 ≤ c.toNat) && decide (c.toNat ≤ 90))
def isD (c : UInt8) : Bool := decide (48 ≤ c.toNat) && decide (c.toNat ≤ 57)
def isA (c : UInt8) : Bool := isL c || isD c
/-- So many bytes, all of them such. -/
def run (l : List UInt8) (a b : Nat) (p : UInt8 → Bool) : Bool := decide (a ≤ l.length) && decide (l.length ≤ b) && l.all p
def lang (l : List UInt8) : Bool := run l 2 3 isL
def script (l : List UInt8) : Bool := run l 4 4 isL
def region (l : List UInt8) : Bool := run l 2 2 isL || run l 3 3 isD
def variant (l : List UInt8) : Bool := run l 5 8 isA || (run l 4 4 isA && isD (l.headD 0))
/-- What a subtag is behind one of a kind. -/
def kind (k : Nat) (l : List UInt8) : Nat :=
  if k = 0 then (if lang l then 1 else 0) else if k < 2 ∧ script l = true then 2 else if k < 3 ∧ region l = true then 3 else if variant l then 4 else 0
def isUp (c : UInt8) : Bool := decide (65 ≤ c.toNat) && decide (c.toNat ≤ 90)
def isLo (c : UInt8) : Bool := decide (97 ≤ c.toNat) && decide (c.toNat ≤ 122)
def lo (c : UInt8) : UInt8 := if isUp c then (c.toNat + 32).toUInt8 else c
def up (c : UInt8) : UInt8 := if isLo c then (c.toNat - 32).toUInt8 else c
def form (k : Nat) (l : List UInt8) : List UInt8 :=
  if k = 2 then ((l.map lo).take 1).map up ++ (l.map lo).drop 1 else if k = 3 then (l.map lo).map up else l.map lo
def isSep (c : UInt8) : Bool := c == 45 || c == 95
def cut : List UInt8 → List (List UInt8)
  | [] => [[]]
  | c :: l => if isSep c then [] :: cut l else match cut l with
    | [] => [[c]]
    | x :: xs => (c :: x) :: xs
def walk : Nat → List (List UInt8) → List (List UInt8) → Option (List (List UInt8))
  | _, acc, [] => some acc
  | k, acc, x :: xs => if kind k x = 0 then none else if acc.contains (form (kind k x) x) then none else walk (kind k x) (acc ++ [form (kind k x) x]) xs
def join : List (List UInt8) → List UInt8
  | [] => []
  | [x] => x
  | x :: y :: xs => x ++ 45 :: join (y :: xs)
def rootB : List UInt8 := [114, 111, 111, 116]
def canon (s : List UInt8) : Option (List UInt8) :=
  if 40 < s.length then none else if s.map lo = rootB then some rootB else (walk 0 [] (cut s)).map join
def isT (s : List UInt8) : Bool := canon s == some s
def parent (s : List UInt8) : List UInt8 :=
  if isT s = false ∨ s = rootB then [] else match (s.reverse.findIdx? (· == 45)) with
    | none => rootB
    | some i => s.take (s.length - 1 - i)
def parts (s : List UInt8) : List (List UInt8) := if isT s then cut s else []

/-! bytes -/
theorem all_u8 (p : UInt8 → Bool) (h : (List.range 256).all (fun n => p n.toUInt8) = true) : ∀ c, p c = true := by
  intro c
  have := List.all_eq_true.1 h c.toNat (List.mem_range.2 c.toNat_lt)
  simpa using this
theorem lo_lo (c : UInt8) : lo (lo c) = lo c := by
  have := all_u8 (fun c => lo (lo c) == lo c) (by decide +kernel) c
  simpa using this
theorem lo_up (c : UInt8) : lo (up c) = lo c := by
  have := all_u8 (fun c => lo (up c) == lo c) (by decide +kernel) c
  simpa using this
theorem isL_lo (c : UInt8) : isL (lo c) = isL c := by
  have := all_u8 (fun c => isL (lo c) == isL c) (by decide +kernel) c
  simpa using this
theorem isL_up (c : UInt8) : isL (up c) = isL c := by
  have := all_u8 (fun c => isL (up c) == isL c) (by decide +kernel) c
  simpa using this
theorem isD_lo (c : UInt8) : isD (lo c) = isD c := by
  have := all_u8 (fun c => isD (lo c) == isD c) (by decide +kernel) c
  simpa using this
theorem isD_up (c : UInt8) : isD (up c) = isD c := by
  have := all_u8 (fun c => isD (up c) == isD c) (by decide +kernel) c
  simpa using this
theorem sep_lo (c : UInt8) : isSep (lo c) = isSep c := by
  have := all_u8 (fun c => isSep (lo c) == isSep c) (by decide +kernel) c
  simpa using this
theorem sep_up (c : UInt8) : isSep (up c) = isSep c := by
  have := all_u8 (fun c => isSep (up c) == isSep c) (by decide +kernel) c
  simpa using this
theorem sep_isA (c : UInt8) (h : isA c = true) : isSep c = false := by
  have := all_u8 (fun c => !(isA c && isSep c)) (by decide +kernel) c
  simp [h] at this
  exact this

/-! forms -/
theorem form_len (k : Nat) (l : List UInt8) : (form k l).length = l.length := by
  unfold form
  split
  · cases l <;> simp
  · split <;> simp
theorem form_all (k : Nat) (l : List UInt8) (p : UInt8 → Bool) (h1 : ∀ c, p (lo c) = p c) (h2 : ∀ c, p (up c) = p c) : (form k l).all p = l.all p := by
  unfold form
  split
  · cases l with
    | nil => rfl
    | cons c l => simp [List.all_map, h1, h2, Function.comp_def]
  · split <;> simp [List.all_map, h1, h2, Function.comp_def]
theorem form_run (k : Nat) (l : List UInt8) (a b : Nat) (p : UInt8 → Bool) (h1 : ∀ c, p (lo c) = p c) (h2 : ∀ c, p (up c) = p c) : run (form k l) a b p = run l a b p := by
  unfold run
  rw [form_len, form_all k l p h1 h2]
theorem isA_lo (c : UInt8) : isA (lo c) = isA c := by unfold isA; rw [isL_lo, isD_lo]
theorem isA_up (c : UInt8) : isA (up c) = isA c := by unfold isA; rw [isL_up, isD_up]
theorem form_head (k : Nat) (l : List UInt8) : isD ((form k l).headD 0) = isD (l.headD 0) := by
  unfold form
  cases l with
  | nil => split <;> (try split) <;> rfl
  | cons c l =>
    split
    · simp [isD_lo, isD_up]
    · split <;> simp [isD_lo, isD_up]
theorem kind_form (k j : Nat) (l : List UInt8) : kind k (form j l) = kind k l := by
  unfold kind lang script region variant
  rw [form_run j l 2 3 isL isL_lo isL_up, form_run j l 4 4 isL isL_lo isL_up, form_run j l 2 2 isL isL_lo isL_up, form_run j l 3 3 isD isD_lo isD_up, form_run j l 5 8 isA isA_lo isA_up, form_run j l 4 4 isA isA_lo isA_up, form_head]
theorem form_form (k : Nat) (l : List UInt8) : form k (form k l) = form k l := by
  unfold form
  split
  · cases l with
    | nil => rfl
    | cons c l => simp [lo_lo, lo_up, Function.comp_def]
  · split <;> simp [lo_lo, lo_up, Function.comp_def]
theorem kind_alnum {k : Nat} {l : List UInt8} (h : kind k l ≠ 0) : l.all isA = true ∧ 2 ≤ l.length ∧ l.length ≤ 8 := by
  have hL : ∀ l : List UInt8, l.all isL = true → l.all isA = true := fun l h => by
    rw [List.all_eq_true] at h ⊢
    intro c hc
    simp [isA, h c hc]
  have hD : ∀ l : List UInt8, l.all isD = true → l.all isA = true := fun l h => by
    rw [List.all_eq_true] at h ⊢
    intro c hc
    simp [isA, h c hc]
  unfold kind at h
  split at h
  · split at h
    · rename_i h1
      simp only [lang, run, Bool.and_eq_true, decide_eq_true_eq] at h1
      exact ⟨hL _ h1.2, by omega, by omega⟩
    · exact absurd rfl h
  · split at h
    · rename_i h1
      simp only [script, run, Bool.and_eq_true, decide_eq_true_eq] at h1
      exact ⟨hL _ h1.2.2, by omega, by omega⟩
    · split at h
      · rename_i h1
        simp only [region, run, Bool.and_eq_true, Bool.or_eq_true, decide_eq_true_eq] at h1
        rcases h1.2 with h1 | h1
        · exact ⟨hL _ h1.2, by omega, by omega⟩
        · exact ⟨hD _ h1.2, by omega, by omega⟩
      · split at h
        · rename_i h1
          simp only [variant, run, Bool.and_eq_true, Bool.or_eq_true, decide_eq_true_eq] at h1
          rcases h1 with h1 | h1
          · exact ⟨h1.2, by omega, by omega⟩
          · exact ⟨h1.1.2, by omega, by omega⟩
        · exact absurd rfl h
def noSep (l : List UInt8) : Prop := ∀ c ∈ l, isSep c = false
theorem kind_nosep {k : Nat} {l : List UInt8} (h : kind k l ≠ 0) : noSep l := fun c hc => sep_isA c (List.all_eq_true.1 (kind_alnum h).1 c hc)

/-! cutting and joining -/
theorem cut_ne (l : List UInt8) : cut l ≠ [] := by
  cases l with
  | nil => simp [cut]
  | cons c l =>
    unfold cut
    split
    · simp
    · split <;> simp
theorem cut_nosep {l : List UInt8} (h : noSep l) : cut l = [l] := by
  induction l with
  | nil => rfl
  | cons c l ih =>
    have := ih (fun x hx => h x (by simp [hx]))
    unfold cut
    rw [h c (by simp), this]
    rfl
theorem cut_at {l r : List UInt8} {c : UInt8} (h : noSep l) (hc : isSep c = true) : cut (l ++ c :: r) = l :: cut r := by
  induction l with
  | nil => simp [cut, hc]
  | cons x l ih =>
    have := ih (fun y hy => h y (by simp [hy]))
    rw [List.cons_append, cut, h x (by simp), this]
    rfl
theorem cut_parts (l : List UInt8) : ∀ x ∈ cut l, noSep x := by
  induction l with
  | nil => intro x hx; simp [cut] at hx; subst hx; intro c hc; simp at hc
  | cons c l ih =>
    intro x hx
    unfold cut at hx
    split at hx
    · rcases List.mem_cons.1 hx with rfl | hx
      · intro c hc; simp at hc
      · exact ih x hx
    · rename_i hc
      split at hx
      · simp at hx; subst hx
        intro y hy; simp at hy; subst hy; simpa using hc
      · rename_i y ys he
        rcases List.mem_cons.1 hx with rfl | hx
        · intro z hz
          rcases List.mem_cons.1 hz with rfl | hz
          · simpa using hc
          · exact ih y (by rw [he]; simp) z hz
        · exact ih x (by rw [he]; simp [hx])
/-- The bytes of all, with those between. -/
def size : List (List UInt8) → Nat
  | [] => 0
  | [x] => x.length
  | x :: y :: xs => x.length + 1 + size (y :: xs)
theorem size_cons {x : List UInt8} {xs : List (List UInt8)} (h : xs ≠ []) : size (x :: xs) = x.length + 1 + size xs := by
  cases xs with
  | nil => exact absurd rfl h
  | cons y ys => rfl
theorem join_cons {x : List UInt8} {xs : List (List UInt8)} (h : xs ≠ []) : join (x :: xs) = x ++ 45 :: join xs := by
  cases xs with
  | nil => exact absurd rfl h
  | cons y ys => rfl
theorem join_len (xs : List (List UInt8)) : (join xs).length = size xs := by
  induction xs with
  | nil => rfl
  | cons x xs ih =>
    cases xs with
    | nil => rfl
    | cons y ys => rw [join_cons (by simp), size_cons (by simp)]; simp [ih]; omega
theorem size_cut (l : List UInt8) : size (cut l) = l.length := by
  induction l with
  | nil => rfl
  | cons c l ih =>
    unfold cut
    split
    · rw [size_cons (cut_ne l), ih]; simp; omega
    · split
      · rename_i he; exact absurd he (cut_ne l)
      · rename_i y ys he
        rw [he] at ih
        cases ys with
        | nil => simp [size] at ih ⊢; omega
        | cons z zs => rw [size_cons (by simp)] at ih ⊢; simp; omega
theorem cut_join {xs : List (List UInt8)} (h0 : xs ≠ []) (h : ∀ x ∈ xs, noSep x) : cut (join xs) = xs := by
  induction xs with
  | nil => exact absurd rfl h0
  | cons x xs ih =>
    cases xs with
    | nil => exact cut_nosep (h x (by simp))
    | cons y ys => rw [join_cons (by simp), cut_at (h x (by simp)) (by rfl), ih (by simp) (fun z hz => h z (by simp [hz]))]

/-! the walk -/
theorem walk_form : ∀ (xs : List (List UInt8)) (k : Nat) (acc r : List (List UInt8)), walk k acc xs = some r → ∃ ys, r = acc ++ ys ∧ walk k acc ys = some r ∧ size ys = size xs ∧ ys.length = xs.length ∧ ∀ y ∈ ys, noSep y
  | [], k, acc, r, h => by
    simp [walk] at h
    exact ⟨[], by simp [h], by simp [walk, h], rfl, rfl, by simp⟩
  | x :: xs, k, acc, r, h => by
    rw [walk] at h
    split at h
    · cases h
    · rename_i hk
      split at h
      · cases h
      · rename_i hc
        obtain ⟨ys, e1, e2, e3, e4, e5⟩ := walk_form xs _ _ r h
        refine ⟨form (kind k x) x :: ys, by rw [e1]; simp, ?_, ?_, by simp [e4], ?_⟩
        · rw [walk, kind_form, if_neg hk, form_form, if_neg hc]
          exact e2
        · cases xs with
          | nil =>
            cases ys with
            | nil => simp [size, form_len]
            | cons y ys => simp at e4
          | cons z zs =>
            cases ys with
            | nil => simp at e4
            | cons y ys => rw [size_cons (x := form (kind k x) x) (xs := y :: ys) (by simp), size_cons (x := x) (by simp), form_len, e3]
        · intro y hy
          rcases List.mem_cons.1 hy with rfl | hy
          · have : kind k (form (kind k x) x) ≠ 0 := by rw [kind_form]; exact hk
            exact kind_nosep this
          · exact e5 y hy
/-- A row of parts as a canonical tag has them. -/
def Cn (ps : List (List UInt8)) : Prop := ps ≠ [] ∧ walk 0 [] ps = some ps
theorem Cn.nosep {ps : List (List UInt8)} (h : Cn ps) : ∀ x ∈ ps, noSep x := by
  obtain ⟨ys, e1, _, _, _, e5⟩ := walk_form ps 0 [] ps h.2
  rw [List.nil_append] at e1
  rw [e1]
  exact e5
theorem Cn.first {ps : List (List UInt8)} (h : Cn ps) : ∃ x xs, ps = x :: xs ∧ lang x = true ∧ 2 ≤ x.length ∧ x.length ≤ 3 := by
  obtain ⟨h0, h1⟩ := h
  cases ps with
  | nil => exact absurd rfl h0
  | cons x xs =>
    rw [walk] at h1
    split at h1
    · cases h1
    · rename_i hk
      have hl : lang x = true := by
        simp only [kind, if_true] at hk
        cases hx : lang x with
        | true => rfl
        | false => rw [hx] at hk; exact absurd rfl hk
      have := hl
      simp only [lang, run, Bool.and_eq_true, decide_eq_true_eq] at this
      exact ⟨x, xs, rfl, hl, by omega, by omega⟩
theorem Cn.cut {ps : List (List UInt8)} (h : Cn ps) : cut (join ps) = ps := cut_join h.1 h.nosep
theorem map_nosep {l : List UInt8} (h : l.map lo = rootB) : noSep l := by
  intro c hc
  have : lo c ∈ rootB := by rw [← h]; exact List.mem_map_of_mem hc
  rw [← sep_lo]
  revert this
  generalize lo c = d
  intro h
  simp [rootB] at h
  rcases h with rfl | rfl | rfl <;> rfl
theorem Cn.noroot {ps : List (List UInt8)} (h : Cn ps) : ¬ (join ps).map lo = rootB := by
  intro he
  have h1 := cut_nosep (map_nosep he)
  rw [h.cut] at h1
  obtain ⟨x, xs, rfl, _, h2, h3⟩ := h.first
  cases xs with
  | nil =>
    have := congrArg List.length he
    rw [show join [x] = x from rfl] at this
    simp [rootB] at this
    omega
  | cons y ys => exact absurd (congrArg List.length h1) (by simp)
theorem Cn.canon {ps : List (List UInt8)} (h : Cn ps) (hs : (join ps).length ≤ 40) : canon (join ps) = some (join ps) := by
  unfold G.canon
  rw [if_neg (by omega), if_neg h.noroot, h.cut, h.2]
  rfl
theorem canon_cases {s t : List UInt8} (h : canon s = some t) : t = rootB ∨ ∃ ps, Cn ps ∧ t = join ps ∧ t.length ≤ 40 ∧ walk 0 [] (cut s) = some ps := by
  unfold canon at h
  split at h
  · cases h
  · rename_i hs
    split at h
    · cases h; exact .inl rfl
    · cases hw : walk 0 [] (cut s) with
      | none => rw [hw] at h; cases h
      | some r =>
        rw [hw] at h
        cases h
        obtain ⟨ys, e1, e2, e3, e4, e5⟩ := walk_form _ _ _ _ hw
        rw [List.nil_append] at e1
        subst e1
        have hne : r ≠ [] := by
          intro h0
          rw [h0] at e4
          exact cut_ne s (List.eq_nil_of_length_eq_zero e4.symm)
        exact .inr ⟨r, ⟨hne, e2⟩, rfl, by rw [join_len, e3, size_cut]; omega, rfl⟩
theorem canon_root : canon rootB = some rootB := by decide +kernel
theorem canon_canon {s t : List UInt8} (h : canon s = some t) : canon t = some t := by
  rcases canon_cases h with rfl | ⟨ps, hp, rfl, hl, _⟩
  · exact canon_root
  · exact hp.canon hl
theorem isT_iff {s : List UInt8} : isT s = true ↔ canon s = some s := by simp [isT]
theorem isT_canon {s t : List UInt8} (h : canon s = some t) : isT t = true := isT_iff.2 (canon_canon h)
theorem root_isT : isT rootB = true := isT_iff.2 canon_root
/-- What is a tag but root's is its parts, joined. -/
theorem isT_cases {t : List UInt8} (h : isT t = true) (hr : t ≠ rootB) : ∃ ps, Cn ps ∧ t = join ps ∧ t.length ≤ 40 ∧ cut t = ps := by
  rcases canon_cases (isT_iff.1 h) with h | ⟨ps, hp, e, hl, _⟩
  · exact absurd h hr
  · exact ⟨ps, hp, e, hl, by rw [e, hp.cut]⟩
theorem walk_app : ∀ (xs ys : List (List UInt8)) (k : Nat) (acc r : List (List UInt8)), walk k acc (xs ++ ys) = some r → ∃ r1, walk k acc xs = some r1
  | [], _, k, acc, _, _ => ⟨acc, rfl⟩
  | x :: xs, ys, k, acc, r, h => by
    rw [List.cons_append, walk] at h
    rw [walk]
    split at h
    · cases h
    · rename_i hk
      rw [if_neg hk]
      split at h
      · cases h
      · rename_i hc
        rw [if_neg hc]
        exact walk_app xs ys _ _ r h
theorem walk_same : ∀ (xs : List (List UInt8)) (k : Nat) (acc r1 : List (List UInt8)) (zs : List (List UInt8)), walk k acc (xs ++ zs) = some (acc ++ xs ++ zs) → walk k acc xs = some r1 → r1 = acc ++ xs
  | [], _, acc, r1, _, _, h => by simp [walk] at h; simp [h]
  | x :: xs, k, acc, r1, zs, h, h1 => by
    rw [List.cons_append, walk] at h
    rw [walk] at h1
    split at h
    · cases h
    · rename_i hk
      rw [if_neg hk] at h1
      split at h
      · cases h
      · rename_i hc
        rw [if_neg hc] at h1
        obtain ⟨ys, e1, _⟩ := walk_form _ _ _ _ h
        have hx : form (kind k x) x = x := by
          have := congrArg (fun l => l[acc.length]?) e1
          simp at this
          exact this.symm
        rw [hx] at h h1
        have := walk_same xs (kind k x) (acc ++ [x]) r1 zs (by rw [h]; simp) h1
        rw [this]; simp
theorem Cn.init {ps : List (List UInt8)} {p : List UInt8} (h : Cn (ps ++ [p])) (h0 : ps ≠ []) : Cn ps := by
  refine ⟨h0, ?_⟩
  obtain ⟨r1, h1⟩ := walk_app ps [p] 0 [] _ h.2
  have := walk_same ps 0 [] r1 [p] (by rw [h.2]; simp) h1
  rw [h1, this]; simp
theorem join_snoc {ps : List (List UInt8)} (p : List UInt8) (h : ps ≠ []) : join (ps ++ [p]) = join ps ++ 45 :: p := by
  induction ps with
  | nil => exact absurd rfl h
  | cons x xs ih =>
    cases xs with
    | nil => rfl
    | cons y ys =>
      rw [List.cons_append, join_cons (x := x) (xs := (y :: ys) ++ [p]) (by simp), ih (by simp), join_cons (x := x) (xs := y :: ys) (by simp)]
      simp
theorem find_last (l p : List UInt8) (h : noSep p) : (l ++ 45 :: p).reverse.findIdx? (· == 45) = some p.length := by
  rw [List.reverse_append, List.reverse_cons, List.append_assoc, List.findIdx?_append]
  have : p.reverse.findIdx? (· == 45) = none := by
    rw [List.findIdx?_eq_none_iff]
    intro c hc
    have := h c (List.mem_reverse.1 hc)
    simp [isSep] at this
    simpa using this.1
  rw [this]
  simp [List.findIdx?_cons]
theorem find_none (p : List UInt8) (h : noSep p) : p.reverse.findIdx? (· == 45) = none := by
  rw [List.findIdx?_eq_none_iff]
  intro c hc
  have := h c (List.mem_reverse.1 hc)
  simp [isSep] at this
  simpa using this.1
theorem Cn.neroot {ps : List (List UInt8)} (h : Cn ps) : join ps ≠ rootB := fun e => h.noroot (by rw [e]; decide)
/-- The parent of a tag of one part is root; of others it is a tag of one part fewer. -/
theorem parent_one {p : List UInt8} (h : Cn [p]) (hl : (join [p]).length ≤ 40) : parent (join [p]) = rootB := by
  unfold parent
  rw [if_neg (by
    intro hh
    rcases hh with hh | hh
    · rw [isT_iff.2 (h.canon hl)] at hh; cases hh
    · exact h.neroot hh), show join [p] = p from rfl, find_none p (h.nosep p (by simp))]
theorem parent_more {ps : List (List UInt8)} {p : List UInt8} (h0 : ps ≠ []) (h : Cn (ps ++ [p])) (hl : (join (ps ++ [p])).length ≤ 40) : parent (join (ps ++ [p])) = join ps ∧ Cn ps ∧ (join ps).length ≤ 40 := by
  have hj := join_snoc p h0
  refine ⟨?_, h.init h0, by rw [hj] at hl; simp at hl; omega⟩
  unfold parent
  rw [if_neg (by
    intro hh
    rcases hh with hh | hh
    · rw [isT_iff.2 (h.canon hl)] at hh; cases hh
    · exact h.neroot hh), hj, find_last _ _ (h.nosep p (by simp))]
  simp
theorem parent_root : parent rootB = [] := by unfold parent; rw [if_pos (.inr rfl)]
theorem parent_none {s : List UInt8} (h : isT s = false) : parent s = [] := by unfold parent; rw [if_pos (.inl h)]
end G

theorem hide {p : Prop} (h : p) : Hid p := h
/-- One step behind another. -/
theorem nx {w w1 w2 : World} (h : Below w.heap.size w w1) (h1 : Below w1.heap.size w1 w2) : Below w.heap.size w w2 := h.trans (h1.mono h.size)
theorem al1 (w : World) (o : Obj) : Below w.heap.size w (w.alloc o) := (Below.refl _ w).alloc (Nat.le_refl _) _
abbrev U8 (c : UInt8) : Value := .int .u8 (c.toNat : Int)
theorem u8_eq (c k : UInt8) : ((c.toNat : Int) == (k.toNat : Int)) = decide (c = k) := by
  by_cases e : c = k
  · subst e; simp
  · rw [decide_eq_false e, beq_eq_false_iff_ne]
    exact fun h => e (UInt8.toNat_inj.1 (by omega))
/-- The bytes of a text. -/
def bts (s : ByteArray) : List UInt8 := s.data.toList
theorem bts_len (s : ByteArray) : (bts s).length = s.size := rfl
theorem idx_at {s : ByteArray} {i : Nat} (hi : i < (bts s).length) (j : Int) (hj : j = (i : Int)) (h : j.toNat < s.size) : s[j.toNat]'h = (bts s)[i] := by
  subst hj
  simp [bts, ByteArray.getElem_eq_getElem_data]
theorem take_snoc {l : List UInt8} {k n : Nat} (h : k + n < l.length) : (l.drop k).take (n + 1) = (l.drop k).take n ++ [l[k + n]] := by
  have h2 : n < (l.drop k).length := by rw [List.length_drop]; omega
  rw [List.take_succ_eq_append_getElem h2]
  simp
theorem take_snoc0 {l : List UInt8} {n : Nat} (h : n < l.length) : l.take (n + 1) = l.take n ++ [l[n]] := by
  rw [List.take_succ_eq_append_getElem h]
end Go.Proofs.YtbeihgjonhgfmaaGreatDoor
