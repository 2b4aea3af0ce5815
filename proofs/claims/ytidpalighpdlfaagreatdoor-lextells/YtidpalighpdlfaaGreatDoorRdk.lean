/- Rows of signs as slices; how long a scan's signs are. -/
import Derived.Test.YtidpalighpdlfaaGreatDoorRtok
namespace Go.Proofs.YtidpalighpdlfaaGreatDoor
open Go.RowKit

/-- The slice reads as these signs. -/
def RdK (w : World) (ao : Option Addr) (l : List (X.Tk × Nat)) : Prop :=
  ∀ i (h : i < l.length), ∃ b off, ao = some ⟨b, off, none⟩ ∧ w.cell? ⟨b, off + i * 4, none⟩ = some (.int .i64 (l[i].1.kind : Int)) ∧ w.cell? ⟨b, off + i * 4 + 1, none⟩ = some (.int .i64 (l[i].2 : Int)) ∧ w.cell? ⟨b, off + i * 4 + 2, none⟩ = some (.string ⟨l[i].1.text.toArray⟩) ∧ w.cell? ⟨b, off + i * 4 + 3, none⟩ = some (.int .i32 l[i].1.r)
theorem RdK.later {w wx : World} {ao : Option Addr} {l : List (X.Tk × Nat)} (h : RdK w ao l) (hb : Below w.heap.size w wx) : RdK wx ao l := fun i hi =>
  let ⟨b, off, e, h0, h1, h2, h3⟩ := h i hi
  ⟨b, off, e, cell_later hb h0, cell_later hb h1, cell_later hb h2, cell_later hb h3⟩
theorem elemSize23 (w : World) : (sizeOf (Tryz.prog.elem 23)).run Tryz.prog w = .ok 4 w := by kernel_rfl

theorem cT_at : ∀ (l : List (X.Tk × Nat)) (i : Nat) (h : i < l.length) (j : Nat), j < 4 → (cT l)[i * 4 + j]? = (cK l[i])[j]?
  | x :: l, 0, _, j, hj => by
    have : cT (x :: l) = cK x ++ cT l := rfl
    rw [this, Nat.zero_mul, Nat.zero_add, List.getElem?_append_left (by simp [cK]; omega)]
    rfl
  | x :: l, i + 1, h, j, hj => by
    have e : cT (x :: l) = cK x ++ cT l := rfl
    have hc : (cK x).length = 4 := by simp [cK]
    rw [e, List.getElem?_append_right (by rw [hc]; omega), hc, show (i + 1) * 4 + j - 4 = i * 4 + j by omega, cT_at l i (by simpa using h) j hj]
    rfl
theorem OwnK.rd {w : World} {B : Nat} {v : Value} {l : List (X.Tk × Nat)} (h : OwnK w B v l) : ∃ ao cap, v = .slice ao l.length cap ∧ l.length ≤ cap ∧ (ao = none → cap = 0) ∧ RdK w ao l := by
  obtain ⟨_, h | ⟨g, cap, cur, rfl, _, hg, hle, _, hsz, hxs⟩⟩ := h
  · obtain ⟨rfl, hn⟩ := h
    have : l = [] := List.eq_nil_of_length_eq_zero hn
    subst this
    exact ⟨none, 0, rfl, Nat.le_refl _, fun _ => rfl, fun i h => by simp at h⟩
  · refine ⟨_, cap, rfl, hle, fun h => (by cases h), fun i hi => ⟨g, 0, rfl, ?_⟩⟩
    have key : ∀ j, j < 4 → w.cell? ⟨g, 0 + i * 4 + j, none⟩ = (cK l[i])[j]? := by
      intro j hj
      have h1 : (cur.toList.take (l.length * 4))[i * 4 + j]? = (cT l)[i * 4 + j]? := by rw [hxs]
      rw [List.getElem?_take, if_pos (by omega), cT_at l i hi j hj] at h1
      simp only [World.cell?, hg, Nat.zero_add]
      rw [← h1]
      simp
    exact ⟨key 0 (by omega), key 1 (by omega), key 2 (by omega), key 3 (by omega)⟩
namespace X
open M
theorem next_text {s : List UInt8} {t : Tk} {n : Nat} (h : nextL s = some (t, n)) : t.text.length ≤ s.length ∧ 0 ≤ t.r ∧ t.r ≤ 1114111 := by
  cases s with
  | nil => simp [nextL] at h
  | cons c u =>
    unfold nextL at h
    simp only at h
    split at h
    · cases h; simp
    · split at h
      · split at h
        · cases h
          have := takeWhile_le isLD u
          simp; omega
        · cases h
      · split at h
        · split at h
          · cases h
            have := takeWhile_le isD (c :: u)
            simp at this ⊢; omega
          · cases h
        · split at h
          · cases h
            have := takeWhile_le isI (c :: u)
            simp at this ⊢; omega
          · split at h
            · unfold word at h
              cases hw : wordB u with
              | none => rw [hw] at h; cases h
              | some p =>
                rw [hw] at h
                have := wordB_size u p hw
                simp only at h
                split at h
                · cases h; simp; omega
                · cases h
            · split at h
              · unfold charL at h
                cases u with
                | nil => cases h
                | cons x v =>
                  simp only at h
                  split at h
                  · unfold charN at h
                    split at h
                    · split at h
                      · rename_i hc
                        cases h
                        have := hc.2.2.2.2.1
                        simp; omega
                      · cases h
                    · cases h
                  · split at h
                    · cases h
                      have := dec_point (x :: v)
                      simp; omega
                    · cases h
              · split at h
                · split at h
                  · cases h
                    have h1 := takeWhile_le isL u
                    simp; omega
                  · cases h
                · split at h
                  · cases h
                    simp; omega
                  · split at h
                    · cases h; simp
                    · cases h
theorem scan_sizes (at_ : Nat) (s : List UInt8) : ∀ l, scan at_ s = .ok l → l.length ≤ s.length + 1 ∧ ∀ p ∈ l, p.1.text.length ≤ s.length ∧ 0 ≤ p.1.r ∧ p.1.r ≤ 1114111 := by
  refine scan_ind (p := fun at_ s => ∀ l, scan at_ s = .ok l → l.length ≤ s.length + 1 ∧ ∀ p ∈ l, p.1.text.length ≤ s.length ∧ 0 ≤ p.1.r ∧ p.1.r ≤ 1114111) ?_ ?_ ?_ ?_ ?_ at_ s
  · intro at_ l h
    rw [scan_nil] at h
    cases h
    simp
  · intro at_ c u hb ih l h
    rw [scan_blank _ _ hb] at h
    obtain ⟨h1, h2⟩ := ih l h
    exact ⟨by simp; omega, fun p hp => by have := h2 p hp; simp; omega⟩
  · intro at_ u ih l h
    rw [scan_com] at h
    obtain ⟨h1, h2⟩ := ih l h
    rw [List.length_drop] at h1 h2
    exact ⟨by omega, fun p hp => by have := h2 p hp; omega⟩
  · intro at_ c u hb hc hn l h
    rw [scan_none _ _ hb hc hn] at h
    cases h
  · intro at_ c u t n hb hc hn ih l h
    rw [scan_some _ _ hb hc hn] at h
    have hs := next_size hn
    have ht := next_text hn
    cases hr : scan (at_ + n) ((c :: u).drop n) with
    | error e => rw [hr] at h; cases h
    | ok m =>
      rw [hr] at h
      cases h
      obtain ⟨h1, h2⟩ := ih m hr
      rw [List.length_drop] at h1 h2
      refine ⟨by simp only [List.length_cons] at h1 hs ⊢; omega, fun p hp => ?_⟩
      rcases List.mem_cons.1 hp with rfl | hp
      · exact ht
      · have := h2 p hp
        omega
end X
end Go.Proofs.YtidpalighpdlfaaGreatDoor
