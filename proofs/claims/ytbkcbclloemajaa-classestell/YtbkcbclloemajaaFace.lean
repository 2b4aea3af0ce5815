/- What Union, Inter, Minus, Not, Count, Same, Norm answer. -/
import Derived.Test.YtbkcbclloemajaaJoin
namespace Go.Proofs.Ytbkcbclloemajaa
open Go.RowKit Go.Shelf

/-- A slice that reads as these ranges is handed back; nothing that was there has turned. -/
def Res (w : World) (zs : List S.R) (e : Ending) (W' : World) : Prop := ∃ ao cap, e = .returned (.slice ao zs.length cap) ∧ RdR W' ao zs ∧ (ao = none → cap = 0) ∧ Below w.heap.size w W'
theorem OwnR.res {w W' : World} {B : Nat} {e : TypeId} {v : Value} {zs : List S.R} (h : OwnR W' B e v zs) (hb : Below w.heap.size w W') : Res w zs (.returned v) W' := by
  obtain ⟨ao, cap, rfl, _, hn, hr⟩ := h.rd
  exact ⟨ao, cap, rfl, hr, hn, hb⟩

theorem rdl_one {W : World} {ao : Option Addr} {ca : Nat} {xs : List S.R} (T : TypeId) (h : RdR W ao xs) : RdL (W.alloc (.cells #[.slice ao xs.length ca] T)) W.heap.size 0 [(ao, ca, xs)] := by
  refine ⟨fun i hi => ?_, fun p hp => ?_, by simp⟩
  · obtain rfl : i = 0 := by simpa using hi
    exact (Boxed.new W T _).cell
  · simp at hp; subst hp
    exact h.later (al1 W _)
theorem rdl_two {W : World} {ao bo : Option Addr} {ca cb : Nat} {xs ys : List S.R} (T : TypeId) (h : RdR W ao xs) (h2 : RdR W bo ys) : RdL (W.alloc (.cells #[.slice ao xs.length ca, .slice bo ys.length cb] T)) W.heap.size 0 [(ao, ca, xs), (bo, cb, ys)] := by
  have hc := cells_two (World.alloc_heap_new W (.cells #[.slice ao xs.length ca, .slice bo ys.length cb] T))
  refine ⟨fun i hi => ?_, fun p hp => ?_, by simp⟩
  · match i, hi with
    | 0, _ => exact hc.1
    | 1, _ => exact hc.2
    | i + 2, hi => exact absurd hi (by simp)
  · simp at hp
    rcases hp with rfl | rfl
    · exact h.later (al1 W _)
    · exact h2.later (al1 W _)

theorem setOf1 (ao : Option Addr) (ca : Nat) (xs : List S.R) (T : TypeId) (hl : xs.length ≤ 1000000) (W : World) (h : RdR W ao xs) :
    Calls Try.prog 35 #[.slice (some ⟨W.heap.size, 0, none⟩) 1 1] (W.alloc (.cells #[.slice ao xs.length ca] T)) (Res W (S.set xs)) := by
  have h1 := setOf_any W.heap.size 0 1 [(ao, ca, xs)] (by simp) (fun p hp => by simp at hp; subst hp; exact hl) (by simp [flat]; exact hl) _ (rdl_one T h)
  rw [show flat [(ao, ca, xs)] = xs by simp [flat]] at h1
  refine h1.mono ?_
  rintro e W' ⟨u, rfl, ho, _, hb⟩
  exact ho.res (nx (al1 W _) hb)
theorem setOf2 (ao bo : Option Addr) (ca cb : Nat) (xs ys : List S.R) (T : TypeId) (hl : xs.length + ys.length ≤ 1000000) (W : World) (h : RdR W ao xs) (h2 : RdR W bo ys) :
    Calls Try.prog 35 #[.slice (some ⟨W.heap.size, 0, none⟩) 2 2] (W.alloc (.cells #[.slice ao xs.length ca, .slice bo ys.length cb] T)) (Res W (S.set (xs ++ ys))) := by
  have h1 := setOf_any W.heap.size 0 2 [(ao, ca, xs), (bo, cb, ys)] (by simp) (fun p hp => by simp at hp; rcases hp with rfl | rfl <;> simp <;> omega) (by simp [flat]; omega) _ (rdl_two T h h2)
  rw [show flat [(ao, ca, xs), (bo, cb, ys)] = xs ++ ys by simp [flat]] at h1
  refine h1.mono ?_
  rintro e W' ⟨u, rfl, ho, _, hb⟩
  exact ho.res (nx (al1 W _) hb)

set_option maxHeartbeats 1000000 in
theorem union_any (ao bo : Option Addr) (ca cb : Nat) (xs ys : List S.R) (hl : xs.length + ys.length ≤ 1000000) (w : World) (h : RdR w ao xs) (h2 : RdR w bo ys) :
    Calls Try.prog 21 #[.slice ao xs.length ca, .slice bo ys.length cb] w (Res w (S.set (xs ++ ys))) := by
  have hsl := S.set_length (xs ++ ys)
  rw [List.length_append] at hsl
  go_enter Try.func21, Try.ntmps21
  go_wp2_with fail
  refine (setOf2 ao bo ca cb xs ys _ hl w h h2).mono ?_
  rintro e w1 ⟨a1, c1, rfl, hr1, _, hb1⟩
  generalize S.set (xs ++ ys) = zs at *
  go_wp2_with fail
  refine (values_gives a1 zs c1 (by omega) w1 hr1).mono ?_
  rintro e w2 ⟨v, rfl, hit, hb2⟩
  have hlo := listOf_any v zs (by omega) w2 w2 hit (Below.refl _ _)
  obtain ⟨gf, lb, rfl, _, _⟩ := hit
  go_wp2_with fail
  refine hlo.mono ?_
  rintro e w3 ⟨u, rfl, ho, hb3⟩
  obtain ⟨a3, c3, rfl, _, hn3, hr3⟩ := ho.rd
  go_wp2
  go_ret
  exact ⟨a3, c3, rfl, hr3, hn3, nx (nx hb1 hb2) hb3⟩

end Go.Proofs.Ytbkcbclloemajaa
