/- Expressions made of expressions: plain facts. -/
import Derived.Test.YteaaijhppmkfeaaGreatDoorNod
namespace Go.Proofs.YteaaijhppmkfeaaGreatDoor
open E (Ps Rx T rxOf Vp Star)
def t2 (k : Int) (a b : T) : T := .mk k 0 [] [] [a, b]
def t1 (k : Int) (a : T) : T := .mk k 0 [] [] [a]
def t0 : T := .mk 3 0 [] [] []
theorem pre_t2 (k : Int) (a b : T) : E.pre (t2 k a b) (t2 k a b) = (t2 k a b, t2 k a b) :: (E.pre a a ++ E.pre b b) := by
 rw [E.pre_eq]
 show _ :: E.preK [a, b] [a, b] = _
 rw [E.preK_cons, E.preK_cons, E.preK_nil, List.append_nil]
theorem pre_t1 (k : Int) (a : T) : E.pre (t1 k a) (t1 k a) = (t1 k a, t1 k a) :: E.pre a a := by
 rw [E.pre_eq]
 show _ :: E.preK [a] [a] = _
 rw [E.preK_cons, E.preK_nil, List.append_nil]
theorem pre_t0 : E.pre t0 t0 = [(t0, t0)] := by
 rw [E.pre_eq]
 show _ :: E.preK [] [] = _
 rw [E.preK_nil]
theorem len_t2 (k : Int) (a b : T) : (E.pre (t2 k a b) (t2 k a b)).length = 1 + (E.pre a a).length + (E.pre b b).length := by rw [pre_t2, List.length_cons, List.length_append]; omega
theorem len_t1 (k : Int) (a : T) : (E.pre (t1 k a) (t1 k a)).length = 1 + (E.pre a a).length := by rw [pre_t1, List.length_cons]; omega
theorem len_t0 : (E.pre t0 t0).length = 1 := by rw [pre_t0]; rfl
theorem inT_t2 {k : Int} {a b : T} (ha : InT a) (hb : InT b) : InT (t2 k a b) := inT_mk (by simp [E.NodeB, t2, T.set, T.name, T.kids]) (fun x hx => by
 rcases List.mem_cons.1 hx with rfl | h
 · exact ha
 · rw [List.mem_singleton.1 h]; exact hb)
theorem inT_t1 {k : Int} {a : T} (ha : InT a) : InT (t1 k a) := inT_mk (by simp [E.NodeB, t1, T.set, T.name, T.kids]) (fun x hx => by rw [List.mem_singleton.1 hx]; exact ha)
theorem inT_t0 : InT t0 := inT_mk (by simp [E.NodeB, t0, T.set, T.name, T.kids]) (fun x hx => by cases hx)
theorem vnk_cons (p : T × T) (l : List (T × T)) : E.vnk (p :: l) = (if p.1.kind = 2 then [p.1.name] else []) ++ E.vnk l := by
 unfold E.vnk
 by_cases h : p.1.kind = 2
 · rw [List.filter_cons_of_pos (by simpa using h), if_pos h]; rfl
 · rw [List.filter_cons_of_neg (by simpa using h), if_neg h]; rfl
theorem vnk_app (l m : List (T × T)) : E.vnk (l ++ m) = E.vnk l ++ E.vnk m := by unfold E.vnk; rw [List.filter_append, List.map_append]
theorem plain_t2 {k : Int} {a b : T} (hk : k = 4 ∨ k = 5) (ha : E.PlainP a) (hb : E.PlainP b) (hs : (E.pre a a).length + (E.pre b b).length ≤ 399) : E.PlainP (t2 k a b) := by
 refine ⟨⟨by rw [len_t2]; omega, fun p hp => ?_⟩, ?_⟩
 · rw [pre_t2, List.mem_cons, List.mem_append] at hp
   rcases hp with rfl | h | h
   · rcases hk with rfl | rfl
     · exact ⟨rfl, .inr (.inr ⟨by show (3 : Int) ≤ 4; decide, by show (4 : Int) ≤ 8; decide, rfl, rfl⟩)⟩
     · exact ⟨rfl, .inr (.inr ⟨by show (3 : Int) ≤ 5; decide, by show (5 : Int) ≤ 8; decide, rfl, rfl⟩)⟩
   · exact ha.1.2 p h
   · exact hb.1.2 p h
 · rw [pre_t2, vnk_cons, vnk_app, ha.2, hb.2, if_neg (by rcases hk with rfl | rfl <;> simp [t2, T.kind])]; rfl
theorem plain_t1 {k : Int} {a : T} (hk : k = 6 ∨ k = 7 ∨ k = 8) (ha : E.PlainP a) (hs : (E.pre a a).length ≤ 399) : E.PlainP (t1 k a) := by
 refine ⟨⟨by rw [len_t1]; omega, fun p hp => ?_⟩, ?_⟩
 · rw [pre_t1, List.mem_cons] at hp
   rcases hp with rfl | h
   · rcases hk with rfl | rfl | rfl
     · exact ⟨rfl, .inr (.inr ⟨by show (3 : Int) ≤ 6; decide, by show (6 : Int) ≤ 8; decide, rfl, rfl⟩)⟩
     · exact ⟨rfl, .inr (.inr ⟨by show (3 : Int) ≤ 7; decide, by show (7 : Int) ≤ 8; decide, rfl, rfl⟩)⟩
     · exact ⟨rfl, .inr (.inr ⟨by show (3 : Int) ≤ 8; decide, by show (8 : Int) ≤ 8; decide, rfl, rfl⟩)⟩
   · exact ha.1.2 p h
 · rw [pre_t1, vnk_cons, ha.2, if_neg (by rcases hk with rfl | rfl | rfl <;> simp [t1, T.kind])]; rfl
theorem plain_t0 : E.PlainP t0 := by
 refine ⟨⟨by rw [len_t0]; omega, fun p hp => ?_⟩, by rw [pre_t0, vnk_cons]; rfl⟩
 rw [pre_t0, List.mem_singleton] at hp
 subst hp
 exact ⟨rfl, .inr (.inr ⟨by show (3 : Int) ≤ 3; decide, by show (3 : Int) ≤ 8; decide, rfl, rfl⟩)⟩
theorem L_cat (a b : T) (u : List Int) : (rxOf (t2 4 a b)).L u ↔ ∃ x y, u = x ++ y ∧ (rxOf a).L x ∧ (rxOf b).L y := by
 rw [t2, rxOf, Rx.L, if_pos rfl]
theorem L_alt (a b : T) (u : List Int) : (rxOf (t2 5 a b)).L u ↔ (rxOf a).L u ∨ (rxOf b).L u := by
 rw [t2, rxOf, Rx.L, if_neg (by decide)]
theorem L_star (a : T) (u : List Int) : (rxOf (t1 6 a)).L u ↔ Star (rxOf a).L u := by
 rw [t1, rxOf, Rx.L, if_neg (by decide), if_neg (by decide)]
theorem L_plus (a : T) (u : List Int) : (rxOf (t1 7 a)).L u ↔ ∃ x y, u = x ++ y ∧ (rxOf a).L x ∧ Star (rxOf a).L y := by
 rw [t1, rxOf, Rx.L, if_neg (by decide), if_pos rfl]
theorem L_opt (a : T) (u : List Int) : (rxOf (t1 8 a)).L u ↔ u = [] ∨ (rxOf a).L u := by
 rw [t1, rxOf, Rx.L, if_pos rfl]
theorem L_none (u : List Int) : (rxOf t0).L u ↔ u = [] := by
 rw [t0, rxOf, Rx.L, if_neg (by decide)]
end Go.Proofs.YteaaijhppmkfeaaGreatDoor
