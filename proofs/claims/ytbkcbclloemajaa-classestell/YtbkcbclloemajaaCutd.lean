/- Cut: what lies where between the rounds. -/
import Derived.Test.YtbkcbclloemajaaRegv
import Derived.Test.YtbkcbclloemajaaCuts
namespace Go.Proofs.Ytbkcbclloemajaa
open Go.RowKit Go.Shelf

theorem idx_in {ms l : List Nat} {m : Nat} (h : m ∈ ms) : (ms ++ l).idxOf m = ms.idxOf m := by rw [List.idxOf_append, if_pos h]
theorem idx_new {ms : List Nat} {m : Nat} (h : m ∉ ms) : (ms ++ [m]).idxOf m = ms.length := by rw [List.idxOf_append, if_neg h]; simp
/-- The memberships, each where it first comes. -/
def msOf (pre : List (S.R × Nat)) : List Nat := pre.foldl (fun ms p => if p.2 ∈ ms then ms else ms ++ [p.2]) []
theorem msOf_snoc (pre : List (S.R × Nat)) (x : S.R × Nat) : msOf (pre ++ [x]) = if x.2 ∈ msOf pre then msOf pre else msOf pre ++ [x.2] := by
  unfold msOf
  rw [List.foldl_append]
  rfl
/-- The pieces of one membership. -/
def setsOf (pre : List (S.R × Nat)) (m : Nat) : List S.R := (pre.filter fun p => p.2 == m).map (·.1)
theorem setsOf_snoc (pre : List (S.R × Nat)) (x : S.R × Nat) (m : Nat) : setsOf (pre ++ [x]) m = if m = x.2 then setsOf pre m ++ [x.1] else setsOf pre m := by
  unfold setsOf
  rw [List.filter_append, List.map_append]
  by_cases h : m = x.2
  · simp [h]
  · have : ¬ x.2 = m := fun e => h e.symm
    simp [h, this]
def psOf (ms : List Nat) (pre : List (S.R × Nat)) : List (Int × Nat) := pre.map fun p => (p.1.1, ms.idxOf p.2)
theorem msOf_mem (pre : List (S.R × Nat)) (m : Nat) : m ∈ msOf pre ↔ ∃ p ∈ pre, p.2 = m := by
  rcases List.eq_nil_or_concat pre with rfl | ⟨pre', x, rfl⟩
  · simp [msOf]
  · rw [List.concat_eq_append, msOf_snoc]
    have ih := msOf_mem pre' m
    have hx : (∃ p ∈ pre' ++ [x], p.2 = m) ↔ (∃ p ∈ pre', p.2 = m) ∨ x.2 = m := by
      constructor
      · rintro ⟨p, hp, h⟩
        rcases List.mem_append.1 hp with h1 | h1
        · exact .inl ⟨p, h1, h⟩
        · obtain rfl : p = x := by simpa using h1
          exact .inr h
      · rintro (⟨p, hp, h⟩ | h)
        · exact ⟨p, by simp [hp], h⟩
        · exact ⟨x, by simp, h⟩
    rw [hx, ← ih]
    by_cases h : x.2 ∈ msOf pre'
    · rw [if_pos h]
      constructor
      · exact .inl
      · rintro (h1 | rfl)
        · exact h1
        · exact h
    · rw [if_neg h]
      simp [eq_comm]
termination_by pre.length
decreasing_by simp_all
theorem msOf_nodup (pre : List (S.R × Nat)) : (msOf pre).Nodup := by
  rcases List.eq_nil_or_concat pre with rfl | ⟨pre', x, rfl⟩
  · simp [msOf]
  · rw [List.concat_eq_append, msOf_snoc]
    have ih := msOf_nodup pre'
    by_cases h : x.2 ∈ msOf pre'
    · rw [if_pos h]; exact ih
    · rw [if_neg h]
      refine List.nodup_append.2 ⟨ih, by simp, ?_⟩
      intro a ha b hb e
      obtain rfl : b = x.2 := by simpa using hb
      exact h (e ▸ ha)
termination_by pre.length
decreasing_by simp_all
theorem msOf_length (pre : List (S.R × Nat)) : (msOf pre).length ≤ pre.length := by
  rcases List.eq_nil_or_concat pre with rfl | ⟨pre', x, rfl⟩
  · simp [msOf]
  · rw [List.concat_eq_append, msOf_snoc]
    have ih := msOf_length pre'
    split <;> simp <;> omega
termination_by pre.length
decreasing_by simp_all
theorem psOf_snoc (pre : List (S.R × Nat)) (x : S.R × Nat) : psOf (msOf (pre ++ [x])) (pre ++ [x]) = psOf (msOf pre) pre ++ [(x.1.1, (msOf (pre ++ [x])).idxOf x.2)] := by
  have hold : psOf (msOf (pre ++ [x])) pre = psOf (msOf pre) pre := by
    unfold psOf
    refine List.map_congr_left fun p hp => ?_
    have hm : p.2 ∈ msOf pre := (msOf_mem pre p.2).2 ⟨p, hp, rfl⟩
    rw [msOf_snoc]
    split
    · rfl
    · rw [idx_in hm]
  conv => lhs; unfold psOf
  rw [List.map_append]
  change psOf _ pre ++ _ = _
  rw [hold]
  rfl
def cP (ps : List (Int × Nat)) : List Value := ps.flatMap fun p => [.int .i32 p.1, .int .i64 (p.2 : Int)]
def cC (cs : List (Nat × Value)) : List Value := cs.flatMap fun p => [.int .u64 (p.1 : Int), p.2]
theorem cP_snoc (ps : List (Int × Nat)) (x : Int × Nat) : cP (ps ++ [x]) = cP ps ++ [.int .i32 x.1, .int .i64 (x.2 : Int)] := by simp [cP]
theorem cC_snoc (cs : List (Nat × Value)) (x : Nat × Value) : cC (cs ++ [x]) = cC cs ++ [.int .u64 (x.1 : Int), x.2] := by simp [cC]
theorem cC_at (cs : List (Nat × Value)) (k : Nat) (h : k < cs.length) : (cC cs)[k * 2]? = some (.int .u64 (cs[k].1 : Int)) ∧ (cC cs)[k * 2 + 1]? = some cs[k].2 := by
  induction cs generalizing k with
  | nil => simp at h
  | cons x cs ih =>
    cases k with
    | zero => simp [cC]
    | succ k =>
      have := ih k (by simpa using h)
      unfold cC at this ⊢
      rw [List.flatMap_cons, show (k + 1) * 2 = k * 2 + 2 by omega, show k * 2 + 2 + 1 = (k * 2 + 1) + 2 by omega]
      simpa using this
theorem cC_set (cs : List (Nat × Value)) (k : Nat) (h : k < cs.length) (v : Value) : (cC cs).set (k * 2 + 1) v = cC (cs.set k (cs[k].1, v)) := by
  induction cs generalizing k with
  | nil => simp at h
  | cons x cs ih =>
    cases k with
    | zero => simp [cC]
    | succ k =>
      have := ih k (by simpa using h)
      unfold cC at this ⊢
      rw [show (k + 1) * 2 + 1 = (k * 2 + 1) + 2 by omega]
      simpa using this
/-- The map from memberships to their places. -/
def fM (ms : List Nat) : Int → Option Int := fun x => if 0 ≤ x ∧ x.toNat ∈ ms then some (ms.idxOf x.toNat : Int) else none
theorem fM_nil : fM [] = fun _ => none := by funext x; simp [fM]
theorem fM_snoc (ms : List Nat) (m : Nat) (h : m ∉ ms) : upd (fM ms) (m : Int) (ms.length : Int) = fM (ms ++ [m]) := by
  funext x
  unfold upd fM
  by_cases hx : x = (m : Int)
  · subst hx
    simp [idx_new h]
  · rw [if_neg hx]
    by_cases h0 : 0 ≤ x
    · have hne : x.toNat ≠ m := fun e => hx (by omega)
      by_cases hm : x.toNat ∈ ms
      · simp [h0, hm, idx_in hm]
      · simp [h0, hm, hne]
    · simp [h0]
theorem fM_at (ms : List Nat) (m : Nat) : fM ms (m : Int) = if m ∈ ms then some (ms.idxOf m : Int) else none := by
  unfold fM
  simp

theorem own_tag {A : World} {b e s n : Nat} {v : Value} {xs : List Value} (h : A.ownsRow b e s v n xs) {g : Nat} (hg : v.ownBlock = some g) : ∃ cur, A.heap[g]? = some (.cells cur e (0, 0)) := by
  obtain ⟨_, ⟨hv, _⟩ | ⟨g', cap, cur, rfl, _, hg', _⟩⟩ := h
  · rw [hv] at hg; cases hg
  · cases hg
    exact ⟨cur, hg'⟩
theorem own_same {A B : World} {b e s n : Nat} {v : Value} {xs : List Value} (h : A.ownsRow b e s v n xs) (hs : ∀ g, v.ownBlock = some g → B.heap[g]? = A.heap[g]?) : B.ownsRow b e s v n xs := by
  obtain ⟨h1, h2 | ⟨g', cap, cur, rfl, h3, hg', h4⟩⟩ := h
  · exact ⟨h1, .inl h2⟩
  · exact ⟨h1, .inr ⟨g', cap, cur, rfl, h3, (hs g' rfl).trans hg', h4⟩⟩

/-- What lies where: the struct and the box on it, the map and its box, the classes, the pieces, the classes' sets. -/
structure Sx (w : World) (e0 n nm : Nat) (f : Int → Option Int) (cs : List (Nat × Value)) (sets : Nat → List S.R) (ps : List (Int × Nat)) (vcl vps : Value) (A : World) : Prop where
  below : Below w.heap.size w A
  st : A.heap[w.heap.size]? = some (.cells #[.int .i64 (n : Int), vcl, vps] 54 (0, 0))
  bx : A.heap[w.heap.size + 1]? = some (.cells #[.pointer (some ⟨w.heap.size, 0, none⟩)] 25 (0, 0))
  mb : A.heap[w.heap.size + 3]? = some (.cells #[.map (some (w.heap.size + 2))] 55 (0, 0))
  mp : Mp A 60 .u64 3 .i64 (w.heap.size + 2) nm f
  rc : A.ownsRow e0 63 2 vcl cs.length (cC cs)
  rp : A.ownsRow e0 65 2 vps ps.length (cP ps)
  rs : ∀ i (h : i < cs.length), OwnR A e0 48 cs[i].2 (sets cs[i].1)
  dj : ∀ i j (hi : i < cs.length) (hj : j < cs.length), i ≠ j → cs[i].2.ownBlock = none ∨ cs[i].2.ownBlock ≠ cs[j].2.ownBlock
  le : e0 ≤ A.heap.size
section
variable {w : World} {e0 n nm : Nat} {f : Int → Option Int} {cs : List (Nat × Value)} {sets : Nat → List S.R} {ps : List (Int × Nat)} {vcl vps : Value} {A B : World}
theorem own_quiet {b e s n q : Nat} {v : Value} {xs : List Value} (h : A.ownsRow b e s v n xs) (hq : Quiet q A B) (ht : (e == 63 || e == 65 || e == 48) = true) : B.ownsRow b e s v n xs :=
  own_same h fun g hg => by
    obtain ⟨cur, hc⟩ := own_tag h hg
    rw [hc]
    exact hq.same g _ hc (.inr ht)
theorem Sx.quiet (h : Sx w e0 n nm f cs sets ps vcl vps A) (hq : Quiet (w.heap.size + 4) A B) : Sx w e0 n nm f cs sets ps vcl vps B := by
  have hsz := h.below.size
  refine ⟨⟨hq.os.trans h.below.os, hq.tape.trans h.below.tape, hq.output.trans h.below.output, Nat.le_trans hsz hq.size, fun k hk => ?_⟩, hq.same _ _ h.st (.inl (by omega)), hq.same _ _ h.bx (.inl (by omega)), hq.same _ _ h.mb (.inl (by omega)), ?_, own_quiet h.rc hq rfl, own_quiet h.rp hq rfl, fun i hi => own_quiet (h.rs i hi) hq rfl, h.dj, Nat.le_trans h.le hq.size⟩
  · have h1 := h.below.block k hk
    have h2 := Array.getElem?_eq_getElem hk
    rw [h2] at h1 ⊢
    exact hq.same k _ h1 (.inl (by omega))
  · obtain ⟨es, c, hm⟩ := h.mp.isMap
    exact h.mp.kept ((hq.same _ _ hm (.inl (by omega))).trans hm.symm)
end
/-- A step of a round. -/
def Step (s rb : Nat) (A B : World) : Prop := Chg (fun k => k = s ∨ k = s + 2 ∨ ∃ o, A.heap[k]? = some o ∧ Tg o = true ∧ k ≠ rb) A B
theorem Step.trans {s rb : Nat} {A B C : World} (h : Step s rb A B) (h2 : Step s rb B C) : Step s rb A C :=
  ⟨h2.os.trans h.os, h2.tape.trans h.tape, h2.output.trans h.output, Nat.le_trans h.size h2.size, fun k hk hp => by
    have e1 := h.block k hk hp
    refine (h2.block k (Nat.lt_of_lt_of_le hk h.size) ?_).trans e1
    rw [e1]
    exact hp⟩
theorem Step.refl (s rb : Nat) (A : World) : Step s rb A A := ⟨rfl, rfl, rfl, Nat.le_refl _, fun _ _ _ => rfl⟩
theorem Step.same {s rb : Nat} {A B : World} (h : Step s rb A B) {k : Nat} {o : Obj} (hk : A.heap[k]? = some o) (h1 : k ≠ s) (h2 : k ≠ s + 2) (ho : Tg o = false ∨ k = rb) : B.heap[k]? = some o := by
  rw [h.block k (Array.getElem?_eq_some_iff.1 hk).1 ?_]
  · exact hk
  · rintro (e | e | ⟨o', h3, h4, h5⟩)
    · exact h1 e
    · exact h2 e
    · rw [hk] at h3
      cases h3
      rcases ho with ho | ho
      · rw [ho] at h4; cases h4
      · exact h5 ho
theorem Step.kept {s rb e : Nat} {A B : World} (h : Step s rb A B) (he : s + 2 < e) : Kept e A B :=
  ⟨h.size, fun k o hk h1 h2 => h.same hk (by omega) (by omega) (.inl h2)⟩
end Go.Proofs.Ytbkcbclloemajaa
