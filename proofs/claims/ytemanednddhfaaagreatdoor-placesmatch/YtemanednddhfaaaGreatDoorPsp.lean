/- The grammar of expressions, as functions of the signs: plain definitions, how far they go. -/
import Derived.Test.YtemanednddhfaaaGreatDoorTre
import Derived.Test.YtemanednddhfaaaGreatDoorJC
namespace Go.Proofs.YtemanednddhfaaaGreatDoor
namespace E
abbrev Tok := X.Tk × Nat
abbrev Res := Except (Nat × Nat) (T × Nat)
abbrev Rs := List U.S.R
def tzz : Tok := (⟨0, [], 0⟩, 0)
def tk (l : List Tok) (i : Nat) : Tok := l.getD i tzz
def isS (t : Tok) (c : List UInt8) : Bool := decide (t.1.kind = 6) && t.1.text == c
def rpt (t : Tok) : Nat := if isS t [42] = true then 6 else if isS t [43] = true then 7 else if isS t [63] = true then 8 else 0
def beg (t : Tok) : Bool := decide (t.1.kind = 1) || (decide (t.1.kind = 4) || (decide (t.1.kind = 5) || (isS t [46] || (isS t [40] || isS t [91]))))
noncomputable def nL (xs : Rs) : Rs := if (xs.all U.S.good) = true ∧ (U.S.set xs).length ≤ 200 then U.S.set xs else []
noncomputable def nE (xs : Rs) : Nat := if (xs.all U.S.good) = true ∧ (U.S.set xs).length ≤ 200 then 0 else 30
def item (l : List Tok) (i : Nat) : Except (Nat × Nat) (Rs × Nat) :=
 if (tk l i).1.kind = 4 then
   if isS (tk l (i + 1)) [45] = true then
     if (tk l (i + 2)).1.kind = 4 then
       if (tk l i).1.r ≤ (tk l (i + 2)).1.r then .ok ([((tk l i).1.r, (tk l (i + 2)).1.r)], i + 3) else .error (30, i)
     else .error (70, i + 2)
   else .ok ([((tk l i).1.r, (tk l i).1.r)], i + 1)
 else if (tk l i).1.kind = 5 then
   if U.kn (tk l i).1.text = true then .ok (U.tl (tk l i).1.text, i + 1) else .error (50, i)
 else .error (70, i)
def items : Nat → List Tok → Nat → Rs → Except (Nat × Nat) (Rs × Nat)
 | 0, _, i, _ => .error (70, i)
 | n + 1, l, i, acc => if isS (tk l i) [93] = true then .ok (acc, i) else match item l i with
   | .error e => .error e
   | .ok (s, j) => items n l j (acc ++ s)
noncomputable def finS (nt : Bool) (acc : Rs) : Rs := if nE acc = 0 ∧ nt = true then nL (U.S.not (nL acc)) else nL acc
noncomputable def finE (nt : Bool) (acc : Rs) : Nat := if nE acc = 0 ∧ nt = true then nE (U.S.not (nL acc)) else nE acc
noncomputable def square (l : List Tok) (i : Nat) : Res :=
 match items (l.length + 1) l (if isS (tk l (i + 1)) [94] = true then i + 2 else i + 1) [] with
 | .error e => .error e
 | .ok (acc, j) => if finE (isS (tk l (i + 1)) [94]) acc = 0 then .ok (.mk 1 (tk l i).2 (finS (isS (tk l (i + 1)) [94]) acc) [] [], j + 1) else .error (30, j)
def round (A : Nat → Res) (dp : Bool) (l : List Tok) (i : Nat) : Res :=
 if dp = false then .error (71, i)
 else if isS (tk l (i + 1)) [41] = true then .ok (.mk 3 (tk l i).2 [] [] [], i + 2)
 else match A (i + 1) with
   | .error e => .error e
   | .ok (e, j) => if isS (tk l j) [41] = true then .ok (e, j + 1) else .error (70, j)
noncomputable def prim (A : Nat → Res) (dp : Bool) (l : List Tok) (i : Nat) : Res :=
 if (tk l i).1.kind = 1 then .ok (.mk 2 (tk l i).2 [] (tk l i).1.text [], i + 1)
 else if (tk l i).1.kind = 4 then .ok (.mk 1 (tk l i).2 [((tk l i).1.r, (tk l i).1.r)] [] [], i + 1)
 else if (tk l i).1.kind = 5 then
   if U.kn (tk l i).1.text = true then .ok (.mk 1 (tk l i).2 (U.tl (tk l i).1.text) [] [], i + 1) else .error (50, i)
 else if isS (tk l i) [46] = true then .ok (.mk 1 (tk l i).2 [(0, 1114111)] [] [], i + 1)
 else if isS (tk l i) [40] = true then round A dp l i
 else if isS (tk l i) [91] = true then square l i
 else .error (70, i)
def repL : Nat → List Tok → Nat → T → T × Nat
 | 0, _, i, t => (t, i)
 | n + 1, l, i, t => if rpt (tk l i) = 0 then (t, i) else repL n l (i + 1) (.mk (rpt (tk l i)) t.at_ [] [] [t])
def repF (P : Nat → Res) (l : List Tok) (i : Nat) : Res :=
 match P i with
 | .error e => .error e
 | .ok (t, j) => .ok (repL l.length l j t)
def catL (Q : Nat → Res) : Nat → List Tok → Nat → T → Res
 | 0, _, i, t => .ok (t, i)
 | n + 1, l, i, t => if beg (tk l i) = true then match Q i with
     | .error e => .error e
     | .ok (u, j) => catL Q n l j (.mk 4 t.at_ [] [] [t, u])
   else .ok (t, i)
def catF (Q : Nat → Res) (l : List Tok) (i : Nat) : Res :=
 match Q i with
 | .error e => .error e
 | .ok (t, j) => catL Q l.length l j t
def altL (Q : Nat → Res) : Nat → List Tok → Nat → T → Res
 | 0, _, i, t => .ok (t, i)
 | n + 1, l, i, t => if isS (tk l i) [124] = true then match Q (i + 1) with
     | .error e => .error e
     | .ok (u, j) => altL Q n l j (.mk 5 t.at_ [] [] [t, u])
   else .ok (t, i)
def altF (Q : Nat → Res) (l : List Tok) (i : Nat) : Res :=
 match Q i with
 | .error e => .error e
 | .ok (t, j) => altL Q l.length l j t
noncomputable def alt : Nat → List Tok → Nat → Res
 | 0, l, i => altF (catF (repF (prim (fun _ => .error (70, 0)) false l) l) l) l i
 | d + 1, l, i => altF (catF (repF (prim (alt d l) true l) l) l) l i
noncomputable def primD : Nat → List Tok → Nat → Res
 | 0, l => prim (fun _ => .error (70, 0)) false l
 | d + 1, l => prim (alt d l) true l
noncomputable def repD (d : Nat) (l : List Tok) : Nat → Res := repF (primD d l) l
noncomputable def catD (d : Nat) (l : List Tok) : Nat → Res := catF (repD d l) l
theorem alt_eq (d : Nat) (l : List Tok) (i : Nat) : alt d l i = altF (catD d l) l i := by cases d <;> rfl
noncomputable def roundD : Nat → List Tok → Nat → Res
 | 0, l => round (fun _ => .error (70, 0)) false l
 | d + 1, l => round (alt d l) true l
theorem primD_eq (d : Nat) (l : List Tok) (i : Nat) : primD d l i =
   if (tk l i).1.kind = 1 then .ok (.mk 2 (tk l i).2 [] (tk l i).1.text [], i + 1)
   else if (tk l i).1.kind = 4 then .ok (.mk 1 (tk l i).2 [((tk l i).1.r, (tk l i).1.r)] [] [], i + 1)
   else if (tk l i).1.kind = 5 then
     if U.kn (tk l i).1.text = true then .ok (.mk 1 (tk l i).2 (U.tl (tk l i).1.text) [] [], i + 1) else .error (50, i)
   else if isS (tk l i) [46] = true then .ok (.mk 1 (tk l i).2 [(0, 1114111)] [] [], i + 1)
   else if isS (tk l i) [40] = true then roundD d l i
   else if isS (tk l i) [91] = true then square l i
   else .error (70, i) := by cases d <;> rfl
def Good (l : List Tok) : Prop := ∀ x ∈ l, (0 ≤ x.1.r ∧ x.1.r ≤ 1114111 ∧ x.1.text.length ≤ 100000) ∧ x.1.kind ≠ 5 ∧ isS x [91] = false ∧ isS x [46] = false
theorem tk_lt {l : List Tok} {i : Nat} (h : (tk l i).1.kind ≠ 0) : i < l.length := by
 apply Decidable.byContradiction
 intro hn
 apply h
 rw [tk, List.getD_eq_getElem?_getD, List.getElem?_eq_none (by omega)]
 rfl
theorem isS_lt {l : List Tok} {i : Nat} {c : List UInt8} (h : isS (tk l i) c = true) : i < l.length := by
 apply tk_lt
 intro h0
 simp [isS, h0] at h
theorem tk_good {l : List Tok} (hg : Good l) (i : Nat) : 0 ≤ (tk l i).1.r ∧ (tk l i).1.r ≤ 1114111 ∧ (tk l i).1.text.length ≤ 100000 := by
 by_cases h : i < l.length
 · have e : tk l i = l[i] := by rw [tk, List.getD_eq_getElem?_getD, List.getElem?_eq_getElem h]; rfl
   rw [e]
   exact (hg _ (List.getElem_mem h)).1
 · rw [tk, List.getD_eq_getElem?_getD, List.getElem?_eq_none (by omega)]
   decide
theorem tk_light {l : List Tok} (hg : Good l) (i : Nat) : (tk l i).1.kind ≠ 5 ∧ isS (tk l i) [91] = false ∧ isS (tk l i) [46] = false := by
 by_cases h : i < l.length
 · have e : tk l i = l[i] := by rw [tk, List.getD_eq_getElem?_getD, List.getElem?_eq_getElem h]; rfl
   rw [e]
   exact (hg _ (List.getElem_mem h)).2
 · rw [tk, List.getD_eq_getElem?_getD, List.getElem?_eq_none (by omega)]
   decide
theorem rpt_lt {l : List Tok} {i : Nat} (h : rpt (tk l i) ≠ 0) : i < l.length := by
 unfold rpt at h
 split at h
 · rename_i q; exact isS_lt q
 · split at h
   · rename_i q; exact isS_lt q
   · split at h
     · rename_i q; exact isS_lt q
     · exact absurd rfl h
theorem beg_lt {l : List Tok} {i : Nat} (h : beg (tk l i) = true) : i < l.length := by
 simp only [beg, Bool.or_eq_true, decide_eq_true_eq] at h
 rcases h with h | h | h | h | h | h
 · exact tk_lt (by omega)
 · exact tk_lt (by omega)
 · exact tk_lt (by omega)
 all_goals exact isS_lt h
theorem len_ite {c : Prop} [Decidable c] {a b : Rs} {n : Nat} (h1 : a.length ≤ n) (h2 : b.length ≤ n) : (if c then a else b).length ≤ n := by
 split
 · exact h1
 · exact h2
theorem tl_len (s : List UInt8) : (U.tl s).length ≤ 8 := by
 unfold U.tl
 repeat' apply len_ite
 all_goals decide
theorem item_far {l : List Tok} {i j : Nat} {s : Rs} (h : item l i = .ok (s, j)) : i < j ∧ j ≤ l.length ∧ s.length ≤ 8 := by
 unfold item at h
 split at h
 · rename_i h4
   split at h
   · split at h
     · split at h
       · cases h
         rename_i q _
         exact ⟨by omega, tk_lt (i := i + 2) (by omega), by simp⟩
       · cases h
     · cases h
   · cases h
     exact ⟨by omega, tk_lt (by omega), by simp⟩
 · split at h
   · split at h
     · cases h
       refine ⟨by omega, tk_lt (by omega), ?_⟩
       exact tl_len _
     · cases h
   · cases h
theorem items_far : ∀ (n : Nat) {l : List Tok} {i j : Nat} {acc s : Rs}, items n l i acc = .ok (s, j) → i ≤ j ∧ j < l.length ∧ isS (tk l j) [93] = true ∧ s.length ≤ acc.length + 8 * (j - i)
 | 0, _, _, _, _, _, h => by cases h
 | n + 1, l, i, j, acc, s, h => by
   unfold items at h
   split at h
   · cases h
     rename_i q
     exact ⟨Nat.le_refl _, isS_lt q, q, by omega⟩
   · cases hi : item l i with
     | error e => rw [hi] at h; cases h
     | ok p =>
       obtain ⟨u, k⟩ := p
       rw [hi] at h
       have h1 := item_far hi
       have h2 := items_far n h
       rw [List.length_append] at h2
       exact ⟨by omega, h2.2.1, h2.2.2.1, by omega⟩
theorem square_far {l : List Tok} {i j : Nat} {t : T} (h : square l i = .ok (t, j)) : i < j ∧ j ≤ l.length := by
 unfold square at h
 split at h
 · cases h
 · rename_i acc k hk
   have h1 := items_far _ hk
   split at h
   · cases h
     constructor
     · have := h1.1
       split at this <;> omega
     · omega
   · cases h
def Far (l : List Tok) (A : Nat → Res) : Prop := ∀ i t j, A i = .ok (t, j) → i < j ∧ j ≤ l.length
theorem round_far {A : Nat → Res} {dp : Bool} {l : List Tok} (hA : Far l A) : Far l (round A dp l) := by
 intro i t j h
 unfold round at h
 split at h
 · cases h
 · split at h
   · cases h
     rename_i q
     have := isS_lt q
     omega
   · split at h
     · cases h
     · rename_i e k hk
       have h1 := hA _ _ _ hk
       split at h
       · cases h
         rename_i q
         have := isS_lt q
         omega
       · cases h
theorem prim_far {A : Nat → Res} {dp : Bool} {l : List Tok} (hA : Far l A) : Far l (prim A dp l) := by
 intro i t j h
 unfold prim at h
 split at h
 · rename_i q
   cases h
   exact ⟨by omega, tk_lt (by omega)⟩
 · split at h
   · rename_i q
     cases h
     exact ⟨by omega, tk_lt (by omega)⟩
   · split at h
     · rename_i q
       split at h
       · cases h
         exact ⟨by omega, tk_lt (by omega)⟩
       · cases h
     · split at h
       · rename_i q
         cases h
         exact ⟨by omega, isS_lt q⟩
       · split at h
         · exact round_far hA _ _ _ h
         · split at h
           · exact square_far h
           · cases h
theorem repL_far : ∀ (n : Nat) (l : List Tok) (i : Nat) (t : T), i ≤ (repL n l i t).2 ∧ (i ≤ l.length → (repL n l i t).2 ≤ l.length)
 | 0, l, i, t => ⟨Nat.le_refl _, fun h => h⟩
 | n + 1, l, i, t => by
   unfold repL
   split
   · exact ⟨Nat.le_refl _, fun h => h⟩
   · rename_i q
     have h1 := repL_far n l (i + 1) (.mk (rpt (tk l i)) t.at_ [] [] [t])
     have h2 := rpt_lt q
     exact ⟨by omega, fun _ => h1.2 (by omega)⟩
theorem repF_far {P : Nat → Res} {l : List Tok} (hP : Far l P) : Far l (repF P l) := by
 intro i t j h
 unfold repF at h
 split at h
 · cases h
 · rename_i u k hk
   have h1 := hP _ _ _ hk
   have h2 := repL_far l.length l k u
   have h3 : repL l.length l k u = (t, j) := by injection h
   rw [h3] at h2
   exact ⟨by omega, h2.2 h1.2⟩
theorem catL_far {Q : Nat → Res} {l : List Tok} (hQ : Far l Q) : ∀ (n : Nat) (i : Nat) (t u : T) (j : Nat), i ≤ l.length → catL Q n l i t = .ok (u, j) → i ≤ j ∧ j ≤ l.length
 | 0, i, t, u, j, hi, h => by unfold catL at h; cases h; exact ⟨Nat.le_refl _, hi⟩
 | n + 1, i, t, u, j, hi, h => by
   unfold catL at h
   split at h
   · split at h
     · cases h
     · rename_i x k hk
       have h1 := hQ _ _ _ hk
       have h2 := catL_far hQ n k _ u j h1.2 h
       exact ⟨by omega, h2.2⟩
   · cases h; exact ⟨Nat.le_refl _, hi⟩
theorem catF_far {Q : Nat → Res} {l : List Tok} (hQ : Far l Q) : Far l (catF Q l) := by
 intro i t j h
 unfold catF at h
 split at h
 · cases h
 · rename_i x k hk
   have h1 := hQ _ _ _ hk
   have h2 := catL_far hQ _ k _ t j h1.2 h
   exact ⟨by omega, h2.2⟩
theorem altL_far {Q : Nat → Res} {l : List Tok} (hQ : Far l Q) : ∀ (n : Nat) (i : Nat) (t u : T) (j : Nat), i ≤ l.length → altL Q n l i t = .ok (u, j) → i ≤ j ∧ j ≤ l.length
 | 0, i, t, u, j, hi, h => by unfold altL at h; cases h; exact ⟨Nat.le_refl _, hi⟩
 | n + 1, i, t, u, j, hi, h => by
   unfold altL at h
   split at h
   · split at h
     · cases h
     · rename_i x k hk
       have h1 := hQ _ _ _ hk
       have h2 := altL_far hQ n k _ u j h1.2 h
       exact ⟨by omega, h2.2⟩
   · cases h; exact ⟨Nat.le_refl _, hi⟩
theorem altF_far {Q : Nat → Res} {l : List Tok} (hQ : Far l Q) : Far l (altF Q l) := by
 intro i t j h
 unfold altF at h
 split at h
 · cases h
 · rename_i x k hk
   have h1 := hQ _ _ _ hk
   have h2 := altL_far hQ _ k _ t j h1.2 h
   exact ⟨by omega, h2.2⟩
theorem alt_far (l : List Tok) : ∀ d, Far l (alt d l)
 | 0 => fun i t j h => altF_far (catF_far (repF_far (prim_far (fun _ _ _ h => by cases h)))) i t j h
 | d + 1 => fun i t j h => altF_far (catF_far (repF_far (prim_far (alt_far l d)))) i t j h
theorem primD_far (l : List Tok) : ∀ d, Far l (primD d l)
 | 0 => fun i t j h => prim_far (fun _ _ _ h => by cases h) i t j h
 | d + 1 => fun i t j h => prim_far (alt_far l d) i t j h
theorem repD_far (l : List Tok) (d : Nat) : Far l (repD d l) := repF_far (primD_far l d)
theorem catD_far (l : List Tok) (d : Nat) : Far l (catD d l) := catF_far (repD_far l d)
end E
end Go.Proofs.YtemanednddhfaaaGreatDoor
