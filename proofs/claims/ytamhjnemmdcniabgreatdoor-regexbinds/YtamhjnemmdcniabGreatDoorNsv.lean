/- What RegexNests says: the values; the walk. -/
import Derived.Test.YtamhjnemmdcniabGreatDoorKwn
namespace Go.Proofs.YtamhjnemmdcniabGreatDoor
open Go.RowKit Go.Shelf
open E (T)
attribute [local go_sem] Oper.semAt_some
def clo (st : Bool) : List UInt8 := if st = true then [41, 42] else [41]
def tx (n : Nat) (st : Bool) : List UInt8 := List.replicate n 40 ++ ([39, 97] ++ (List.replicate n (clo st)).flatten)
def nst (n : Nat) : Nat → Bool → T
  | 0, _ => .mk 1 n [(97, 97)] [] []
  | k + 1, st => if st = true then .mk 6 n [] [] [nst n k st] else nst n k st
set_option maxRecDepth 100000 in
theorem nest_ok (n : Nat) (h : n ≤ 20) (st : Bool) : E.parse (tx n st) = .ok (nst n n st) := by
  obtain rfl | rfl | rfl | rfl | rfl | rfl | rfl | rfl | rfl | rfl | rfl | rfl | rfl | rfl | rfl | rfl | rfl | rfl | rfl | rfl | rfl : n = 0 ∨ n = 1 ∨ n = 2 ∨ n = 3 ∨ n = 4 ∨ n = 5 ∨ n = 6 ∨ n = 7 ∨ n = 8 ∨ n = 9 ∨ n = 10 ∨ n = 11 ∨ n = 12 ∨ n = 13 ∨ n = 14 ∨ n = 15 ∨ n = 16 ∨ n = 17 ∨ n = 18 ∨ n = 19 ∨ n = 20 := by omega
  all_goals cases st <;> kernel_rfl
set_option maxRecDepth 100000 in
theorem nest_err (n : Nat) (h : 20 < n) (h' : n < 26) (st : Bool) : E.parse (tx n st) = .error (71, 20) := by
  obtain rfl | rfl | rfl | rfl | rfl : n = 21 ∨ n = 22 ∨ n = 23 ∨ n = 24 ∨ n = 25 := by omega
  all_goals cases st <;> kernel_rfl
theorem nst_at (n : Nat) (st : Bool) : ∀ k, (nst n k st).at_ = n
  | 0 => rfl
  | k + 1 => by
    rw [nst]
    split
    · rfl
    · exact nst_at n st k
theorem nst_pre (n : Nat) (st : Bool) : ∀ k, E.cnt (E.pre (nst n k st) (nst n k st)) = 1 ∧ (E.pre (nst n k st) (nst n k st)).length ≤ k + 1
  | 0 => by simp [nst, E.pre, E.preK, E.cnt, T.kind]
  | k + 1 => by
    have ih := nst_pre n st k
    rw [nst]
    split
    · rw [E.pre, T.kids, E.preK, E.preK_nil, List.append_nil]
      refine ⟨?_, by rw [List.length_cons]; omega⟩
      have := ih.1
      unfold E.cnt at this ⊢
      rw [List.countP_cons, this]
      simp [T.kind]
    · exact ⟨ih.1, by omega⟩
theorem bts_app (a b : ByteArray) : bts (a ++ b) = bts a ++ bts b := by
  unfold bts
  simp
theorem TR.atE {w : World} {ok : Nat → Prop} {t : T} {d : ND} (h : TR w ok t d.v) : d.a = t.at_ := by
  cases t with
  | mk k a s n ks =>
    rw [TR] at h
    obtain ⟨sp, sc, kp, kc, e, _⟩ := h
    unfold ND.v at e
    simp only [Value.agg.injEq, Array.mk.injEq, List.cons.injEq, Value.int.injEq] at e
    exact e.2.1.2
theorem clo_len (i : Nat) (st : Bool) : ((List.replicate i (clo st)).flatten).length = i * (clo st).length := by
  simp
theorem AnsP.ok' {s : List UInt8} {t : T} {w w' : World} {e : Ending} (hs : E.parse s = .ok t) (h : AnsP (E.parse s) w e w') : Below w.heap.size w w' ∧ ∃ d : ND, e = .returned (.tuple #[d.v, .int .i64 0, .int .i64 0]) ∧ TR w' (fun _ => True) t d.v := AnsP.ok (by rw [← hs]; exact h)
end Go.Proofs.YtamhjnemmdcniabGreatDoor
