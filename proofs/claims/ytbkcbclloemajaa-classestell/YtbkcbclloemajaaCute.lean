/- Cut: the steps of a round. -/
import Derived.Test.YtbkcbclloemajaaCutd
namespace Go.Proofs.Ytbkcbclloemajaa
open Go.RowKit Go.Shelf
section
variable {w : World} {e0 n nm : Nat} {f : Int → Option Int} {cs : List (Nat × Value)} {sets : Nat → List S.R} {ps : List (Int × Nat)} {vcl vps : Value} {A B : World} {rb : Nat} {lo hi : Int}

theorem below_chg {p : Nat → Prop} {k : Nat} (h : Below k w A) (hc : Chg p A B) (hk : k ≤ w.heap.size) (hp : ∀ i, i < k → ¬ p i) : Below k w B :=
  ⟨hc.os.trans h.os, hc.tape.trans h.tape, hc.output.trans h.output, Nat.le_trans h.size hc.size, fun i hi => (hc.block i (by have := h.size; omega) (hp i hi)).trans (h.block i hi)⟩
theorem chg_same {p : Nat → Prop} (hc : Chg p A B) {k : Nat} {o : Obj} (hk : A.heap[k]? = some o) (hp : ¬ p k) : B.heap[k]? = some o := (hc.block k (Array.getElem?_eq_some_iff.1 hk).1 hp).trans hk
theorem own_chg {p : Nat → Prop} (hc : Chg p A B) {b e s m : Nat} {v : Value} {xs : List Value} (h : A.ownsRow b e s v m xs) (hp : ∀ g, v.ownBlock = some g → ¬ p g) : B.ownsRow b e s v m xs :=
  own_same h fun g hg => hc.block g (h.lt g hg).2 (hp g hg)
theorem own_apart {b b' e e' s s' m m' : Nat} {v v' : Value} {xs xs' : List Value} (h : A.ownsRow b e s v m xs) (h' : A.ownsRow b' e' s' v' m' xs') (hne : e ≠ e') {g : Nat} (h1 : v.ownBlock = some g) : some g ≠ v'.ownBlock := by
  intro h2
  obtain ⟨_, h3⟩ := own_tag h h1
  obtain ⟨_, h4⟩ := own_tag h' h2.symm
  rw [h3] at h4
  cases h4
  exact hne rfl

/-- The map has one key more. -/
theorem Sx.mapped (h : Sx w e0 n nm f cs sets ps vcl vps A) (he : w.heap.size + 4 ≤ e0) {nm' : Nat} {f' : Int → Option Int} (hm : Mp B 60 .u64 3 .i64 (w.heap.size + 2) nm' f') (hg : A.grownBy B (some (w.heap.size + 2))) :
    Sx w e0 n nm' f' cs sets ps vcl vps B ∧ Step w.heap.size rb A B := by
  have hc : Chg (fun k => k = w.heap.size + 2) A B := ⟨hg.os, hg.tape, hg.output, hg.size, fun k hk hp => hg.block k hk (fun e => hp (by cases e; rfl))⟩
  refine ⟨⟨below_chg h.below hc (Nat.le_refl _) (fun i hi => by omega), chg_same hc h.st (by omega), chg_same hc h.bx (by omega), chg_same hc h.mb (by omega), hm, own_chg hc h.rc fun g hg => ?_, own_chg hc h.rp fun g hg => ?_, fun i hi => own_chg hc (h.rs i hi) fun g hg => ?_, h.dj, Nat.le_trans h.le hc.size⟩, hc.mono fun k _ hk => .inr (.inl hk)⟩
  · have := (h.rc.lt g hg).1; omega
  · have := (h.rp.lt g hg).1; omega
  · have := (World.ownsRow.lt (h.rs i hi) g hg).1; omega
/-- A class more. -/
theorem Sx.classed (h : Sx w e0 n nm f cs sets ps vcl vps A) (he : w.heap.size + 4 ≤ e0) (hrb : A.heap[rb]? = some (.cells #[.int .i32 lo, .int .i32 hi] 48 (0, 0))) {m : Nat} (hm : sets m = []) {v' : Value} (h1 : B.heap[w.heap.size]? = some (.cells #[.int .i64 (n : Int), v', vps] 54 (0, 0)))
    (h2 : B.ownsRow e0 63 2 v' (cs.length + 1) (cC cs ++ [.int .u64 (m : Int), .slice none 0 0])) (hc : Chg (fun k => k = w.heap.size ∨ some k = vcl.ownBlock) A B) :
    Sx w e0 n nm f (cs ++ [(m, .slice none 0 0)]) sets ps v' vps B ∧ Step w.heap.size rb A B := by
  have hS : ∀ k, k < e0 → some k ≠ vcl.ownBlock := fun k hk e => by have := (h.rc.lt k e.symm).1; omega
  refine ⟨⟨below_chg h.below hc (Nat.le_refl _) ?_, h1, chg_same hc h.bx ?_, chg_same hc h.mb ?_, ?_, ?_, own_chg hc h.rp fun g hg => ?_, fun i hi => ?_, fun i j hi hj hij => ?_, Nat.le_trans h.le hc.size⟩, hc.mono fun k _ hk => ?_⟩
  · rintro i hi (e | e)
    · omega
    · exact hS i (by omega) e
  · rintro (e | e)
    · omega
    · exact hS _ (by omega) e
  · rintro (e | e)
    · omega
    · exact hS _ (by omega) e
  · obtain ⟨es, c, hmm⟩ := h.mp.isMap
    refine h.mp.kept ((chg_same hc hmm ?_).trans hmm.symm)
    rintro (e | e)
    · omega
    · exact hS _ (by omega) e
  · rw [List.length_append, cC_snoc]; exact h2
  · rintro (e | e)
    · have := (h.rp.lt g hg).1; omega
    · exact own_apart h.rp h.rc (by decide) hg e
  · by_cases hlt : i < cs.length
    · rw [List.getElem_append_left hlt]
      refine own_chg hc (h.rs i hlt) fun g hg => ?_
      rintro (e | e)
      · have := (World.ownsRow.lt (h.rs i hlt) g hg).1; omega
      · exact own_apart (h.rs i hlt) h.rc (by decide) hg e
    · obtain rfl : i = cs.length := by simp at hi; omega
      rw [List.getElem_append_right (Nat.le_refl _)]
      simp only [Nat.sub_self, List.getElem_singleton, hm]
      exact ownR_nil _ _ _
  · by_cases hlt : i < cs.length
    · rw [List.getElem_append_left hlt]
      by_cases hlj : j < cs.length
      · rw [List.getElem_append_left hlj]
        exact h.dj i j hlt hlj hij
      · obtain rfl : j = cs.length := by simp at hj; omega
        rw [List.getElem_append_right (Nat.le_refl _)]
        cases hv : cs[i].2.ownBlock with
        | none => exact .inl rfl
        | some g => right; simp [Value.ownBlock]
    · obtain rfl : i = cs.length := by simp at hi; omega
      rw [List.getElem_append_right (Nat.le_refl _)]
      left
      simp [Value.ownBlock]
  · rcases hk with e | e
    · exact .inl e
    · refine .inr (.inr ?_)
      obtain ⟨cur, hcur⟩ := own_tag h.rc e.symm
      refine ⟨_, hcur, rfl, ?_⟩
      rintro rfl
      rw [hrb] at hcur
      cases hcur
/-- A range more in a class's set. -/
theorem Sx.ranged (h : Sx w e0 n nm f cs sets ps vcl vps A) (he : w.heap.size + 4 ≤ e0) (hrb : A.heap[rb]? = some (.cells #[.int .i32 lo, .int .i32 hi] 48 (0, 0))) {k : Nat} (hk : k < cs.length) (hR : some rb ≠ cs[k].2.ownBlock) (hnd : (cs.map (·.1)).Nodup) {sets' : Nat → List S.R}
    (hs1 : sets' cs[k].1 = sets cs[k].1 ++ [(lo, hi)]) (hs2 : ∀ m, m ≠ cs[k].1 → sets' m = sets m) {v' : Value} (h1 : B.ownsRow e0 63 2 vcl cs.length ((cC cs).set (k * 2 + 1) v')) (h2 : B.ownsRow e0 48 2 v' ((sets cs[k].1).length + 1) (cR (sets cs[k].1) ++ [.int .i32 lo, .int .i32 hi]))
    (hat : v'.ownBlock = cs[k].2.ownBlock ∨ ∃ g, v'.ownBlock = some g ∧ A.heap.size ≤ g) (hc : Chg (fun j => some j = vcl.ownBlock ∨ some j = cs[k].2.ownBlock) A B) :
    Sx w e0 n nm f (cs.set k (cs[k].1, v')) sets' ps vcl vps B ∧ Step w.heap.size rb A B := by
  have hS : ∀ j, j < e0 → ¬ (some j = vcl.ownBlock ∨ some j = cs[k].2.ownBlock) := by
    rintro j hj (e | e)
    · have := (h.rc.lt j e.symm).1; omega
    · have := (World.ownsRow.lt (h.rs k hk) j e.symm).1; omega
  refine ⟨⟨below_chg h.below hc (Nat.le_refl _) (fun i hi => hS i (by omega)), chg_same hc h.st (hS _ (by omega)), chg_same hc h.bx (hS _ (by omega)), chg_same hc h.mb (hS _ (by omega)), ?_, ?_, own_chg hc h.rp fun g hg => ?_, fun i hi => ?_, fun i j hi hj hij => ?_, Nat.le_trans h.le hc.size⟩, hc.mono fun j _ hj => ?_⟩
  · obtain ⟨es, c, hmm⟩ := h.mp.isMap
    exact h.mp.kept ((chg_same hc hmm (hS _ (by omega))).trans hmm.symm)
  · rw [List.length_set, ← cC_set cs k hk v']; exact h1
  · rintro (e | e)
    · exact own_apart h.rp h.rc (by decide) hg e
    · exact own_apart h.rp (h.rs k hk) (by decide) hg e
  · have hi' : i < cs.length := by simpa using hi
    by_cases hik : k = i
    · subst hik
      rw [List.getElem_set_self]
      unfold OwnR
      simp only [hs1]
      rw [List.length_append, cR_append]
      exact h2
    · rw [List.getElem_set_ne hik]
      have hne : cs[i].1 ≠ cs[k].1 := fun e => hik ((List.getElem_inj (xs := cs.map (·.1)) (h₀ := by simpa using hk) (h₁ := by simpa using hi') hnd).1 (by simpa using e.symm))
      rw [hs2 _ hne]
      refine own_chg hc (h.rs i hi') fun g hg => ?_
      rintro (e | e)
      · exact own_apart (h.rs i hi') h.rc (by decide) hg e
      · rcases h.dj i k hi' hk (Ne.symm hik) with e1 | e1
        · rw [hg] at e1; cases e1
        · exact e1 (hg.trans e)
  · have hi' : i < cs.length := by simpa using hi
    have hj' : j < cs.length := by simpa using hj
    by_cases hik : k = i
    · subst hik
      rw [List.getElem_set_self, List.getElem_set_ne hij]
      rcases hat with e | ⟨g, e, hg⟩
      · simp only [e]; exact h.dj k j hk hj' hij
      · right
        simp only [e]
        intro e2
        have := (World.ownsRow.lt (h.rs j hj') g e2.symm).2
        omega
    · rw [List.getElem_set_ne hik]
      by_cases hjk : k = j
      · subst hjk
        rw [List.getElem_set_self]
        rcases hat with e | ⟨g, e, hg⟩
        · simp only [e]; exact h.dj i k hi' hk hij
        · right
          simp only [e]
          intro e2
          have := (World.ownsRow.lt (h.rs i hi') g e2).2
          omega
      · rw [List.getElem_set_ne hjk]
        exact h.dj i j hi' hj' hij
  · refine .inr (.inr ?_)
    rcases hj with e | e
    · obtain ⟨cur, hcur⟩ := own_tag h.rc e.symm
      refine ⟨_, hcur, rfl, ?_⟩
      rintro rfl
      rw [hrb] at hcur
      cases hcur
    · obtain ⟨cur, hcur⟩ := own_tag (h.rs k hk) e.symm
      refine ⟨_, hcur, rfl, ?_⟩
      rintro rfl
      exact hR e
/-- A piece more. -/
theorem Sx.pieced (h : Sx w e0 n nm f cs sets ps vcl vps A) (he : w.heap.size + 4 ≤ e0) (hrb : A.heap[rb]? = some (.cells #[.int .i32 lo, .int .i32 hi] 48 (0, 0))) {k : Nat} {v' : Value} (h1 : B.heap[w.heap.size]? = some (.cells #[.int .i64 (n : Int), vcl, v'] 54 (0, 0)))
    (h2 : B.ownsRow e0 65 2 v' (ps.length + 1) (cP ps ++ [.int .i32 lo, .int .i64 (k : Int)])) (hc : Chg (fun k => k = w.heap.size ∨ some k = vps.ownBlock) A B) :
    Sx w e0 n nm f cs sets (ps ++ [(lo, k)]) vcl v' B ∧ Step w.heap.size rb A B := by
  have hS : ∀ k, k < e0 → some k ≠ vps.ownBlock := fun k hk e => by have := (h.rp.lt k e.symm).1; omega
  refine ⟨⟨below_chg h.below hc (Nat.le_refl _) ?_, h1, chg_same hc h.bx ?_, chg_same hc h.mb ?_, ?_, own_chg hc h.rc fun g hg => ?_, ?_, fun i hi => own_chg hc (h.rs i hi) fun g hg => ?_, h.dj, Nat.le_trans h.le hc.size⟩, hc.mono fun k _ hk => ?_⟩
  · rintro i hi (e | e)
    · omega
    · exact hS i (by omega) e
  · rintro (e | e)
    · omega
    · exact hS _ (by omega) e
  · rintro (e | e)
    · omega
    · exact hS _ (by omega) e
  · obtain ⟨es, c, hmm⟩ := h.mp.isMap
    refine h.mp.kept ((chg_same hc hmm ?_).trans hmm.symm)
    rintro (e | e)
    · omega
    · exact hS _ (by omega) e
  · rintro (e | e)
    · have := (h.rc.lt g hg).1; omega
    · exact own_apart h.rc h.rp (by decide) hg e
  · rw [List.length_append, cP_snoc]; exact h2
  · rintro (e | e)
    · have := (World.ownsRow.lt (h.rs i hi) g hg).1; omega
    · exact own_apart (h.rs i hi) h.rp (by decide) hg e
  · rcases hk with e | e
    · exact .inl e
    · refine .inr (.inr ?_)
      obtain ⟨cur, hcur⟩ := own_tag h.rp e.symm
      refine ⟨_, hcur, rfl, ?_⟩
      rintro rfl
      rw [hrb] at hcur
      cases hcur
end
/-- Between the rounds. -/
def St (w : World) (e0 n : Nat) (pre : List (S.R × Nat)) (A : World) : Prop :=
  ∃ (cs : List (Nat × Value)) (vcl vps : Value), cs.map (·.1) = msOf pre ∧ Sx w e0 n cs.length (fM (msOf pre)) cs (setsOf pre) (psOf (msOf pre) pre) vcl vps A
end Go.Proofs.Ytbkcbclloemajaa
