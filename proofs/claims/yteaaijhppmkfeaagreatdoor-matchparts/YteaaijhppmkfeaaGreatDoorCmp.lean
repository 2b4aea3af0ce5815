/- Expressions made of expressions; what ends and begins where: plain facts. -/
import Derived.Test.YteaaijhppmkfeaaGreatDoorNod
namespace Go.Proofs.YteaaijhppmkfeaaGreatDoor
open E (Ps Rx T rxOf Vp Star)
def t2 (k : Int) (a b : T) : T := .mk k 0 [] [] [a, b]
def t1 (k : Int) (a : T) : T := .mk k 0 [] [] [a]
def t0 : T := .mk 3 0 [] [] []
theorem pre_t2 (k : Int) (a b : T) : E.pre (t2 k a b) (t2 k a b) = (t2 k a b, t2 k a b) :: (E.pre a a ++ E.pre b b) := by
  rw [E.pre_eq]
  show _ :: E.preK [a, b] [a, b] = _
  rw [E.preK_cons, E.preK_cons, E.preK_nil, List.append_nil]
theorem pre_t1 (k : Int) (a : T) : E.pre (t1 k a) (t1 k a) = (t1 k a, t1 k a) :: E.pre a a := by
  rw [E.pre_eq]
  show _ :: E.preK [a] [a] = _
  rw [E.preK_cons, E.preK_nil, List.append_nil]
theorem pre_t0 : E.pre t0 t0 = [(t0, t0)] := by
  rw [E.pre_eq]
  show _ :: E.preK [] [] = _
  rw [E.preK_nil]
theorem len_t2 (k : Int) (a b : T) : (E.pre (t2 k a b) (t2 k a b)).length = 1 + (E.pre a a).length + (E.pre b b).length := by rw [pre_t2, List.length_cons, List.length_append]; omega
theorem len_t1 (k : Int) (a : T) : (E.pre (t1 k a) (t1 k a)).length = 1 + (E.pre a a).length := by rw [pre_t1, List.length_cons]; omega
theorem len_t0 : (E.pre t0 t0).length = 1 := by rw [pre_t0]; rfl
theorem inT_t2 {k : Int} {a b : T} (ha : InT a) (hb : InT b) : InT (t2 k a b) := inT_mk (by simp [E.NodeB, t2, T.set, T.name, T.kids]) (fun x hx => by
  rcases List.mem_cons.1 hx with rfl | h
  · exact ha
  · rw [List.mem_singleton.1 h]; exact hb)
theorem inT_t1 {k : Int} {a : T} (ha : InT a) : InT (t1 k a) := inT_mk (by simp [E.NodeB, t1, T.set, T.name, T.kids]) (fun x hx => by rw [List.mem_singleton.1 hx]; exact ha)
theorem inT_t0 : InT t0 := inT_mk (by simp [E.NodeB, t0, T.set, T.name, T.kids]) (fun x hx => by cases hx)
theorem vnk_cons (p : T × T) (l : List (T × T)) : E.vnk (p :: l) = (if p.1.kind = 2 then [p.1.name] else []) ++ E.vnk l := by
  unfold E.vnk
  by_cases h : p.1.kind = 2
  · rw [List.filter_cons_of_pos (by simpa using h), if_pos h]; rfl
  · rw [List.filter_cons_of_neg (by simpa using h), if_neg h]; rfl
theorem vnk_app (l m : List (T × T)) : E.vnk (l ++ m) = E.vnk l ++ E.vnk m := by unfold E.vnk; rw [List.filter_append, List.map_append]
theorem plain_t2 {k : Int} {a b : T} (hk : k = 4 ∨ k = 5) (ha : E.PlainP a) (hb : E.PlainP b) (hs : (E.pre a a).length + (E.pre b b).length ≤ 399) : E.PlainP (t2 k a b) := by
  refine ⟨⟨by rw [len_t2]; omega, fun p hp => ?_⟩, ?_⟩
  · rw [pre_t2, List.mem_cons, List.mem_append] at hp
    rcases hp with rfl | h | h
    · rcases hk with rfl | rfl
      · exact ⟨rfl, .inr (.inr ⟨by show (3 : Int) ≤ 4; decide, by show (4 : Int) ≤ 8; decide, rfl, rfl⟩)⟩
      · exact ⟨rfl, .inr (.inr ⟨by show (3 : Int) ≤ 5; decide, by show (5 : Int) ≤ 8; decide, rfl, rfl⟩)⟩
    · exact ha.1.2 p h
    · exact hb.1.2 p h
  · rw [pre_t2, vnk_cons, vnk_app, ha.2, hb.2, if_neg (by rcases hk with rfl | rfl <;> simp [t2, T.kind])]; rfl
theorem plain_t1 {k : Int} {a : T} (hk : k = 6 ∨ k = 7 ∨ k = 8) (ha : E.PlainP a) (hs : (E.pre a a).length ≤ 399) : E.PlainP (t1 k a) := by
  refine ⟨⟨by rw [len_t1]; omega, fun p hp => ?_⟩, ?_⟩
  · rw [pre_t1, List.mem_cons] at hp
    rcases hp with rfl | h
    · rcases hk with rfl | rfl | rfl
      · exact ⟨rfl, .inr (.inr ⟨by show (3 : Int) ≤ 6; decide, by show (6 : Int) ≤ 8; decide, rfl, rfl⟩)⟩
      · exact ⟨rfl, .inr (.inr ⟨by show (3 : Int) ≤ 7; decide, by show (7 : Int) ≤ 8; decide, rfl, rfl⟩)⟩
      · exact ⟨rfl, .inr (.inr ⟨by show (3 : Int) ≤ 8; decide, by show (8 : Int) ≤ 8; decide, rfl, rfl⟩)⟩
    · exact ha.1.2 p h
  · rw [pre_t1, vnk_cons, ha.2, if_neg (by rcases hk with rfl | rfl | rfl <;> simp [t1, T.kind])]; rfl
theorem plain_t0 : E.PlainP t0 := by
  refine ⟨⟨by rw [len_t0]; omega, fun p hp => ?_⟩, by rw [pre_t0, vnk_cons]; rfl⟩
  rw [pre_t0, List.mem_singleton] at hp
  subst hp
  exact ⟨rfl, .inr (.inr ⟨by show (3 : Int) ≤ 3; decide, by show (3 : Int) ≤ 8; decide, rfl, rfl⟩)⟩
theorem L_cat (a b : T) (u : List Int) : (rxOf (t2 4 a b)).L u ↔ ∃ x y, u = x ++ y ∧ (rxOf a).L x ∧ (rxOf b).L y := by
  rw [t2, rxOf, Rx.L, if_pos rfl]
theorem L_alt (a b : T) (u : List Int) : (rxOf (t2 5 a b)).L u ↔ (rxOf a).L u ∨ (rxOf b).L u := by
  rw [t2, rxOf, Rx.L, if_neg (by decide)]
theorem L_star (a : T) (u : List Int) : (rxOf (t1 6 a)).L u ↔ Star (rxOf a).L u := by
  rw [t1, rxOf, Rx.L, if_neg (by decide), if_neg (by decide)]
theorem L_plus (a : T) (u : List Int) : (rxOf (t1 7 a)).L u ↔ ∃ x y, u = x ++ y ∧ (rxOf a).L x ∧ Star (rxOf a).L y := by
  rw [t1, rxOf, Rx.L, if_neg (by decide), if_pos rfl]
theorem L_opt (a : T) (u : List Int) : (rxOf (t1 8 a)).L u ↔ u = [] ∨ (rxOf a).L u := by
  rw [t1, rxOf, Rx.L, if_pos rfl]
theorem L_none (u : List Int) : (rxOf t0).L u ↔ u = [] := by
  rw [t0, rxOf, Rx.L, if_neg (by decide)]
theorem cut_iff {P Q : List Int → Prop} (u : List Int) : (∃ x y, u = x ++ y ∧ P x ∧ Q y) ↔ ∃ i, i ≤ u.length ∧ P (u.take i) ∧ Q (u.drop i) := by
  constructor
  · rintro ⟨x, y, rfl, hx, hy⟩
    exact ⟨x.length, by simp, by simpa using hx, by simpa using hy⟩
  · rintro ⟨i, _, h1, h2⟩
    exact ⟨_, _, (List.take_append_drop i u).symm, h1, h2⟩
theorem star_iff {L : List Int → Prop} (u : List Int) : Star L u ↔ (∃ x y, u = x ++ y ∧ L x ∧ Star L y) ∨ u = [] := by
  constructor
  · intro h
    rcases h.first with h | ⟨x, y, e, h1, h2, _⟩
    · exact .inr h
    · exact .inl ⟨x, y, e, h1, h2⟩
  · rintro (⟨x, y, rfl, h1, h2⟩ | rfl)
    · exact .app h1 h2
    · exact .nil
theorem star_rev {L M : List Int → Prop} (h : ∀ u, M u → L u.reverse) {u : List Int} (hu : Star M u) : Star L u.reverse := by
  induction hu with
  | nil => exact .nil
  | app hx _ ih => rw [List.reverse_append]; exact ih.snoc (h _ hx)
theorem star_rev_iff {L M : List Int → Prop} (h : ∀ u, M u ↔ L u.reverse) (u : List Int) : Star M u ↔ Star L u.reverse :=
  ⟨star_rev fun v hv => (h v).1 hv, fun hu => by
    have := star_rev (L := M) (M := L) (fun v hv => (h _).2 (by rwa [List.reverse_reverse])) hu
    rwa [List.reverse_reverse] at this⟩
theorem plus_a {L : List Int → Prop} {y : List Int} (hy : Star L y) : ∀ {x : List Int}, L x → ∃ p q, x ++ y = p ++ q ∧ Star L p ∧ L q := by
  induction hy with
  | nil => intro x hx; exact ⟨[], x, by simp, .nil, hx⟩
  | @app a b ha _ ih =>
    intro x hx
    obtain ⟨p, q, e, h1, h2⟩ := ih ha
    exact ⟨x ++ p, q, by rw [e, List.append_assoc], .app hx h1, h2⟩
theorem plus_b {L : List Int → Prop} {p : List Int} (hp : Star L p) {q : List Int} (hq : L q) : ∃ x y, p ++ q = x ++ y ∧ L x ∧ Star L y := by
  induction hp with
  | nil => exact ⟨q, [], by simp, hq, .nil⟩
  | @app a b ha _ ih =>
    obtain ⟨x, y, e, h1, h2⟩ := ih
    exact ⟨a, x ++ y, by rw [List.append_assoc, e], ha, .app h1 h2⟩
/-- The other way round. -/
theorem rev_L (x : Rx) : ∀ u, x.rev.L u ↔ x.L u.reverse := by
  induction x with
  | leaf k s =>
    intro u
    unfold Rx.rev Rx.L
    by_cases h : k = 1
    · rw [if_pos h, if_pos h]
      constructor
      · rintro ⟨r, rfl, h2⟩; exact ⟨r, rfl, h2⟩
      · rintro ⟨r, e, h2⟩; exact ⟨r, by rw [← List.reverse_reverse u, e]; rfl, h2⟩
    · rw [if_neg h, if_neg h]; exact List.reverse_eq_nil_iff.symm
  | one k a ih =>
    intro u
    unfold Rx.rev Rx.L
    by_cases h8 : k = 8
    · rw [if_pos h8, if_pos h8, ih, List.reverse_eq_nil_iff]
    · rw [if_neg h8, if_neg h8]
      by_cases h7 : k = 7
      · rw [if_pos h7, if_pos h7]
        constructor
        · rintro ⟨x, y, rfl, h1, h2⟩
          rw [List.reverse_append]
          exact plus_b ((star_rev_iff ih y).1 h2) ((ih x).1 h1)
        · rintro ⟨x, y, e, h1, h2⟩
          obtain ⟨p, q, e2, h3, h4⟩ := plus_a h2 h1
          refine ⟨q.reverse, p.reverse, ?_, (ih _).2 (by rwa [List.reverse_reverse]), (star_rev_iff ih _).2 (by rwa [List.reverse_reverse])⟩
          rw [← List.reverse_append, ← e2, ← e, List.reverse_reverse]
      · rw [if_neg h7, if_neg h7]
        exact star_rev_iff ih u
  | two k a b iha ihb =>
    intro u
    unfold Rx.rev
    by_cases h4 : k = 4
    · rw [if_pos h4]
      unfold Rx.L
      rw [if_pos h4, if_pos h4]
      constructor
      · rintro ⟨x, y, rfl, h1, h2⟩
        exact ⟨y.reverse, x.reverse, by rw [List.reverse_append], (iha y).1 h2, (ihb x).1 h1⟩
      · rintro ⟨x, y, e, h1, h2⟩
        refine ⟨y.reverse, x.reverse, ?_, (ihb _).2 (by rwa [List.reverse_reverse]), (iha _).2 (by rwa [List.reverse_reverse])⟩
        rw [← List.reverse_append, ← e, List.reverse_reverse]
    · rw [if_neg h4]
      unfold Rx.L
      rw [if_neg h4, if_neg h4, iha, ihb]
/-- What ends where, from k on, place by place. -/
theorem ends_by {t : T} {xs zs : List Int} {k : Nat} (hk : k ≤ xs.length) (h : EndP t xs (k : Int) zs) : ∃ c : Nat → List Int, c 0 = [] ∧ c (xs.length - k + 1) = zs ∧ ∀ m, m ≤ xs.length - k →
    (AllP t ((xs.drop k).take m) → c (m + 1) = c m ++ [((k + m : Nat) : Int)]) ∧ (¬ AllP t ((xs.drop k).take m) → c (m + 1) = c m) := by
  rcases h with ⟨⟨_, _, hp⟩, rfl⟩ | ⟨h, rfl⟩
  · refine ⟨pls (xs.drop k) (rxOf t) (fun m => (k : Int) + (m : Int)), rfl, by rw [Int.toNat_natCast], fun m hm => ?_⟩
    have hi := hit_iff (xs.drop k) (rxOf t) m (by simpa using hm)
    constructor
    · intro h
      rw [pls_succ, if_pos (hi.2 h.2)]; simp
    · intro h
      rw [pls_succ, if_neg (fun h2 => h ⟨hp, hi.1 h2⟩)]; simp
  · refine ⟨fun _ => [], rfl, rfl, fun m _ => ⟨fun h2 => absurd ⟨by omega, by omega, h2.1⟩ h, fun _ => rfl⟩⟩
theorem by_pre {c : Nat → List Int} {n : Nat} (h : ∀ m, m ≤ n → (∃ l, c (m + 1) = c m ++ l)) : ∀ m, m ≤ n + 1 → ∃ l, c (n + 1) = c m ++ l := by
  intro m hm
  obtain ⟨d, hd⟩ : ∃ d, n + 1 - m = d := ⟨_, rfl⟩
  induction d generalizing m with
  | zero => exact ⟨[], by rw [show m = n + 1 by omega]; simp⟩
  | succ d ih =>
    obtain ⟨l, hl⟩ := h m (by omega)
    obtain ⟨l2, hl2⟩ := ih (m + 1) (by omega) (by omega)
    exact ⟨l ++ l2, by rw [hl2, hl, List.append_assoc]⟩
/-- It begins at k up to a place just if what stands between is matched. -/
theorem begs_iff {t : T} {xs zs : List Int} {k to : Nat} (hk : k ≤ to) (ht : to ≤ xs.length) (h : BegP t xs (to : Int) zs) : (k : Int) ∈ zs ↔ AllP t ((xs.drop k).take (to - k)) := by
  rcases h with ⟨⟨_, _, hp⟩, rfl⟩ | ⟨h, rfl⟩
  · rw [List.mem_reverse, Int.toNat_natCast]
    unfold pls
    rw [List.mem_map]
    have hi := hit_iff (xs.take to).reverse (rxOf t).rev (to - k) (by simp; omega)
    have hL : (rxOf t).rev.L ((xs.take to).reverse.take (to - k)) ↔ (rxOf t).L ((xs.drop k).take (to - k)) := by
      rw [rev_L, List.take_reverse, List.reverse_reverse, List.length_take, Nat.min_eq_left ht, show to - (to - k) = k by omega, List.drop_take]
    constructor
    · rintro ⟨m, hm, e⟩
      rw [List.mem_filter, List.mem_range] at hm
      have : m = to - k := by omega
      subst this
      exact ⟨hp, hL.1 (hi.1 hm.2)⟩
    · intro h2
      exact ⟨to - k, List.mem_filter.2 ⟨List.mem_range.2 (by omega), hi.2 (hL.2 h2.2)⟩, by omega⟩
  · exact ⟨fun h2 => (by cases h2), fun h2 => absurd ⟨by omega, by omega, h2.1⟩ h⟩
theorem ends_len {t : T} {xs zs : List Int} {f : Int} (h : EndP t xs f zs) : zs.length ≤ xs.length + 1 := by
  rcases h with ⟨_, rfl⟩ | ⟨_, rfl⟩
  · exact Nat.le_trans (pls_le _ _ _ _) (by omega)
  · simp
theorem begs_len {t : T} {xs zs : List Int} {f : Int} (h : BegP t xs f zs) : zs.length ≤ xs.length + 1 := by
  rcases h with ⟨⟨_, _, _⟩, rfl⟩ | ⟨_, rfl⟩
  · rw [List.length_reverse]
    exact Nat.le_trans (pls_le _ _ _ _) (by omega)
  · simp
theorem ends_none {t : T} {xs zs : List Int} {f : Int} (hf : ¬ (0 ≤ f ∧ f ≤ (xs.length : Int))) (h : EndP t xs f zs) : zs = [] := by
  rcases h with ⟨⟨h1, h2, _⟩, _⟩ | ⟨_, h⟩
  · exact absurd ⟨h1, h2⟩ hf
  · exact h
end Go.Proofs.YteaaijhppmkfeaaGreatDoor
