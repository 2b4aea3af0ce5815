/- A class's set as a row of the call's own; rows of lists. -/
import Derived.Test.YtbkcbclloemajaaFam
import Derived.Test.YtbkcbclloemajaaOrdm
namespace Go.Proofs.Ytbkcbclloemajaa
open Go.RowKit Go.Shelf

set_option maxRecDepth 100000 in
set_option maxHeartbeats 2000000 in
theorem clone_own {w : World} (ao : Option Addr) (c : Nat) (xs : List S.R) (hn : ao = none → c = 0) (hl : xs.length ≤ 1000000) (hr : RdR w ao xs) : Calls Try.prog 32 #[.slice ao xs.length c] w fun e w' => ∃ v, e = .returned v ∧ OwnR w' w.heap.size 48 v xs ∧ Below w.heap.size w w' := by
  have heq : (binOp .eql 35 (.slice ao xs.length c) (.slice none 0 0)).run Try.prog w = .ok (.bool ao.isNone) w := by
    simp only [binOp]
    simp [run_equal_slice_nil w 35 48 ao xs.length c Try.underlying35]
  cases ao with
  | none =>
    have hx : xs = [] := by
      cases xs with
      | nil => rfl
      | cons x l =>
        obtain ⟨_, _, e, _⟩ := hr 0 (by simp)
        cases e
    subst hx
    obtain rfl := hn rfl
    simp only [List.length_nil, Option.isNone_none] at heq ⊢
    go_enter Try.func32, Try.ntmps32
    go_wp2
    go_ret
    exact ⟨_, rfl, ownR_nil _ _ _, Below.refl _ _⟩
  | some a =>
    simp only [Option.isNone_some] at heq
    have hown : OwnR (w.alloc (.cells #[] 48)) w.heap.size 48 (.slice (some ⟨w.heap.size, 0, none⟩) 0 0) [] := World.ownsRow_made w #[] 0 (Nat.le_refl _) (by decide) rfl
    go_enter Try.func32, Try.ntmps32
    go_wp2_with (at_builtin; refine wpl_appR Try.underlying35 info34 rfl _ _ rfl w.heap.size _ [] (some a) xs xs.length c rfl rfl rfl hown (by simp) (hr.later (al1 _ _)) (fun e => by cases e) (by simp; omega) ?_; intro v' w5 hown' hb5 hgr5)
    go_ret
    exact ⟨v', rfl, hown', (al1 w (.cells #[] 48)).trans hb5⟩
set_option maxRecDepth 100000 in
set_option maxHeartbeats 4000000 in
theorem cset_own {w : World} {pc n : Nat} {ms : List Nat} {sets : Nat → List S.R} {ps : List (Int × Nat)} (h : Cl w pc n ms sets ps) (hls : ∀ m, (sets m).length ≤ 1000000) {i : Nat} (hi : i < ms.length) : Calls Try.prog 17 #[.pointer (some ⟨pc, 0, none⟩), .int .i64 (i : Int)] w fun e w' => ∃ v, e = .returned v ∧ OwnR w' w.heap.size 48 v (sets ms[i]) ∧ Below w.heap.size w w' := by
  have hcls := isClass_any h (i : Int)
  obtain ⟨acl, ccl, aps, cps, h1, h2, _⟩ := h
  have c1 : w.cell? ⟨pc, 1, none⟩ = some (.slice acl ms.length ccl) := cell_at h1 rfl
  clear h1
  obtain ⟨g, off, ao, c, rfl, c2, c3, hr, hn⟩ := h2 i hi
  have hcl := clone_own ao c (sets ms[i]) hn (hls _) hr
  rw [decide_eq_true (by omega)] at hcls
  generalize sets ms[i] = xs at c3 hr hcl ⊢
  clear h2
  go_enter Try.func17, Try.ntmps17
  go_wp2_with (first
    | (go_at_call 31; refine hcls.mono ?_; clear hcls; rintro e w' ⟨rfl, rfl⟩)
    | (go_at_call 32; refine hcl.mono ?_; clear hcl; rintro e w2 ⟨v, rfl, g1, g2⟩))
  go_ret
  exact ⟨v, rfl, g1, g2⟩
theorem tel_set_own {w : World} {pc : Nat} {L : List L3} (h : Tel w pc L) {i : Nat} (hi : i < (msL L).length) : Calls Try.prog 17 #[.pointer (some ⟨pc, 0, none⟩), .int .i64 (i : Int)] w fun e w' => ∃ v, e = .returned v ∧ OwnR w' w.heap.size 48 v (setL L (i : Int)) ∧ Below w.heap.size w w' := by
  rw [setL_at hi]
  exact cset_own h.2.2 (stL_len L h.1 h.2.1) hi

/-- A row of lists of the call's own, each the call's own too. -/
structure Rl (w : World) (B : Nat) (v : Value) (ls : List L3) : Prop where
  row : w.ownsRow B 35 1 v ls.length (ls.map encL)
  each : ∀ p ∈ ls, ∃ C, OwnR w C 48 (encL p) p.2.2
  le : B ≤ w.heap.size
theorem Rl.later {w w' : World} {B : Nat} {v : Value} {ls : List L3} (h : Rl w B v ls) (hb : Below w.heap.size w w') : Rl w' B v ls :=
  ⟨own_same h.row (fun g hg => hb.block g (h.row.lt g hg).2), fun p hp => let ⟨C, h1⟩ := h.each p hp; ⟨C, h1.later hb⟩, Nat.le_trans h.le hb.size⟩
theorem Rl.snoc {w w' : World} {B C : Nat} {v v' : Value} {ls : List L3} {p : L3} (h : Rl w B v ls) (hp : OwnR w C 48 (encL p) p.2.2) (ho : w'.ownsRow B 35 1 v' (ls.length + 1) (ls.map encL ++ [encL p])) (hc : Chg (fun k => some k = v.ownBlock) w w') : Rl w' B v' (ls ++ [p]) := by
  have hk : ∀ q C, OwnR w C 48 (encL q) q.2.2 → OwnR w' C 48 (encL q) q.2.2 := fun q C hq => own_chg hc hq fun g hg => own_apart hq h.row (by decide) hg
  refine ⟨by rw [List.length_append, List.map_append]; exact ho, fun q hq => ?_, Nat.le_trans h.le hc.size⟩
  rcases List.mem_append.1 hq with h1 | h1
  · obtain ⟨D, h2⟩ := h.each q h1
    exact ⟨D, hk q D h2⟩
  · obtain rfl : q = p := by simpa using h1
    exact ⟨C, hk q C hp⟩
theorem row_rds {w : World} {B : Nat} {v : Value} {ls : List L3} (h : w.ownsRow B 35 1 v ls.length (ls.map encL)) (hr : ∀ p ∈ ls, RdR w p.1 p.2.2) : ∃ sao cap, v = .slice sao ls.length cap ∧ ls.length ≤ cap ∧ RdS w sao ls := by
  obtain ⟨ao, c, rfl, h0, hn, h1⟩ := own_slice h
  refine ⟨ao, c, rfl, ?_, fun j hj => ?_⟩
  · obtain ⟨_, ⟨h2, h3⟩ | ⟨g, cap, cur, h2, _, _, h3, _⟩⟩ := h
    · rw [h3]; exact Nat.zero_le _
    · cases h2; exact h3
  · obtain ⟨g, rfl, h2⟩ := h1 j (encL ls[j]) (by simp [hj])
    exact ⟨g, 0, rfl, by rw [Nat.zero_add]; exact h2, hr _ (List.getElem_mem hj)⟩
theorem own_encL {w : World} {C : Nat} {p : L3} (h : OwnR w C 48 (encL p) p.2.2) : RdR w p.1 p.2.2 := by
  obtain ⟨ao, c, e, _, _, hr⟩ := OwnR.rd h
  unfold encL at e
  cases e
  exact hr
theorem Rl.rds {w : World} {B : Nat} {v : Value} {ls : List L3} (h : Rl w B v ls) : ∃ sao cap, v = .slice sao ls.length cap ∧ ls.length ≤ cap ∧ RdS w sao ls :=
  row_rds h.row fun p hp => let ⟨_, h1⟩ := h.each p hp; own_encL h1
theorem own_form {w : World} {C : Nat} {v : Value} {xs : List S.R} (h : OwnR w C 48 v xs) : ∃ p : L3, v = encL p ∧ p.2.2 = xs := by
  obtain ⟨ao, c, rfl, _⟩ := own_slice h
  exact ⟨(ao, c, xs), rfl, rfl⟩
/-- append(nil, sets...). -/
theorem wpl_appN {w : World} {ops : Array Oper} {rest : List Oper} {o : Oper} {a : Act} {Q : Exit → Act → World → Prop} (hgd : o.guard = none) (s x : Operand)
    (hop : o.op = .call { callee := .builtin .append, args := #[s, x], argTypes := #[22, 22] }) (sao : Option Addr) (cap : Nat) (ls : List L3) (hs : a.eval s = .slice none 0 0) (hx : a.eval x = .slice sao ls.length cap) (hrd : RdS w sao ls) (hn : sao = none → cap = 0) (hl : ls.length ≤ 1000000)
    (h : ∀ v' w', w'.ownsRow w.heap.size 35 1 v' ls.length (ls.map encL) → Below w.heap.size w w' → wpList Try.prog ops Q rest (a.put o.dst v') w') : wpList Try.prog ops Q (o :: rest) a w := by
  obtain ⟨i0, hi, hz0, hz1, hz2⟩ := info_parts2 (P := Try.prog) (e := 35) (z := .slice none 0 0) (s := 1) (b := 24) (by kernel_rfl)
  refine wpList_plain hgd fun K hK => ?_
  cases sao with
  | none =>
    have hl0 : ls = [] := by
      cases ls with
      | nil => rfl
      | cons p l =>
        obtain ⟨_, _, e, _⟩ := hrd 0 (by simp)
        cases e
    subst hl0
    have hr := run_append_owned_none (P := Try.prog) (w := w) w.heap.size 22 o.type 35 i0 1 Try.underlying22 hi (.slice none 0 0) 0 [] (World.ownsRow_nil _ _ _ _)
    rw [hn rfl] at hx
    unfold Oper.wp
    simp [execOp, hop, resolve, invoke, builtin, hs, hx, hr, Result.andThen]
    exact hK _ _ (h _ w (World.ownsRow_nil _ _ _ _) (Below.refl _ _))
  | some ad =>
    by_cases h0 : ls.length = 0
    · have hl0 : ls = [] := List.eq_nil_of_length_eq_zero h0
      subst hl0
      obtain ⟨v', w', hr, h2, h3, _⟩ := run_append_own (P := Try.prog) w w.heap.size 22 o.type 35 i0 _ 1 24 Try.underlying22 hi hz0 hz1 hz2 rfl (by decide) (.slice none 0 0) 0 [] (World.ownsRow_nil _ _ _ _) ad 0 cap [] rfl (fun j u hu => by simp at hu) (by simp) (by simp) (by simp) (Nat.le_refl _)
      unfold Oper.wp
      simp [execOp, hop, resolve, invoke, builtin, hs, hx, hr, Result.andThen]
      exact hK _ _ (h _ w' h2 ((Below.refl _ _).grown h3 (Nat.le_refl _) (fun k e => by cases e)))
    · obtain ⟨b, off, e, _⟩ := hrd 0 (by omega)
      cases e
      obtain ⟨v', w', hr, h2, h3, _⟩ := run_append_own (P := Try.prog) w w.heap.size 22 o.type 35 i0 _ 1 24 Try.underlying22 hi hz0 hz1 hz2 rfl (by decide) (.slice none 0 0) 0 [] (World.ownsRow_nil _ _ _ _) ⟨b, off, none⟩ ls.length cap (ls.map encL) (by simp)
        (fun j u hu => by
          have hj : j < ls.length := by have := (List.getElem?_eq_some_iff.1 hu).1; simpa using this
          obtain ⟨b', off', e, h4, _⟩ := hrd j hj
          cases e
          rw [Addr.add_mid, h4]
          simp [hj, encL] at hu ⊢
          exact hu) (fun u hu => by obtain ⟨p, _, rfl⟩ := List.mem_map.1 hu; rfl) (by unfold maxLen; omega) (by omega) (Nat.le_refl _)
      unfold Oper.wp
      simp [execOp, hop, resolve, invoke, builtin, hs, hx, hr, Result.andThen]
      refine hK _ _ (h _ w' ?_ ((Below.refl _ _).grown h3 (Nat.le_refl _) (fun k e => by cases e)))
      simpa using h2
end Go.Proofs.Ytbkcbclloemajaa
