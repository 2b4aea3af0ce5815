/- What RegexNames says: plain facts. -/
import Derived.Test.YteaaijhppmkfeaaGreatDoorBkp
namespace Go.Proofs.YteaaijhppmkfeaaGreatDoor
open Go.RowKit
namespace E
/-- Names of one letter, each behind a blank. -/
def nmT (cs : List UInt8) : List UInt8 := cs.flatMap fun c => [32, 36, c]
theorem nameP_one {c : UInt8} (h : X.isL c = true) : nameP [c] = true := by
  have hn : X.nextL (36 :: [c]) = some (⟨1, [c], 0⟩, 2) := by
    unfold X.nextL
    simp [X.isLD, h]
  unfold nameP
  rw [X.scan_some 0 [c] (by decide) (by decide) hn]
  simp [X.scan_nil, Except.map]
theorem Sc.names : ∀ (cs : List UInt8), (∀ c ∈ cs, X.isL c = true) → Sc (nmT cs) (cs.map fun c => E.nm [c])
  | [], _ => Sc.nil
  | c :: cs, h => by
    have h1 := Sc.bl.app ((Sc.nm (nameP_one (h c (by simp)))).app (Sc.names cs (fun x hx => h x (by simp [hx]))))
    simpa [nmT] using h1
/-- The names of a tree's variables, in its order. -/
def vn (t : T) : List (List UInt8) := ((pre t t).filter fun p => decide (p.1.kind = 2)).map fun p => p.1.name
theorem vn_var (a : Int) (n : List UInt8) : vn (.mk 2 a [] n []) = [n] := by
  unfold vn
  rw [pre, preK_nil]
  simp [T.kind, T.name]
theorem vn_cat (a : Int) (t u : T) : vn (.mk 4 a [] [] [t, u]) = vn t ++ vn u := by
  unfold vn
  rw [pre, T.kids, preK_cons, preK_cons, preK_nil, List.append_nil, List.filter_cons]
  simp [T.kind]
/-- Variables and rows alone. -/
def Only (t : T) : Prop := (∀ p ∈ pre t t, (p.1.kind = 2 ∨ p.1.kind = 4) ∧ p.1.name.length ≤ 1) ∧ (pre t t).length + 1 = 2 * (vn t).length
theorem only_var (a : Int) (c : UInt8) : Only (.mk 2 a [] [c] []) := by
  refine ⟨?_, by rw [vn_var, pre, preK_nil]; rfl⟩
  intro p hp
  rw [pre, preK_nil, List.mem_singleton] at hp
  rw [hp]
  exact ⟨.inl rfl, Nat.le_refl _⟩
theorem only_cat {a : Int} {t u : T} (h1 : Only t) (h2 : Only u) : Only (.mk 4 a [] [] [t, u]) := by
  refine ⟨?_, ?_⟩
  · intro p hp
    rw [pre, T.kids, preK_cons, preK_cons, preK_nil, List.append_nil] at hp
    rcases List.mem_cons.1 hp with rfl | hp
    · exact ⟨.inr rfl, Nat.zero_le _⟩
    · rcases List.mem_append.1 hp with hp | hp
      · exact h1.1 p hp
      · exact h2.1 p hp
  · have e1 := h1.2
    have e2 := h2.2
    rw [vn_cat, pre, T.kids, preK_cons, preK_cons, preK_nil, List.append_nil, List.length_cons, List.length_append, List.length_append]
    omega
theorem nm_beg {l : List Tok} {i : Nat} {n : List UInt8} (h : (tk l i).1 = nm n) : beg (tk l i) = true := hd_beg (.inr (.inr ⟨n, h⟩))
theorem nm_rpt {l : List Tok} {i : Nat} {n : List UInt8} (h : (tk l i).1 = nm n) : rpt (tk l i) = 0 := hd_rpt (.inr (.inr ⟨n, h⟩))
theorem rep_nm {d : Nat} {l : List Tok} {i : Nat} {n : List UInt8} (h : (tk l i).1 = nm n) (hr : rpt (tk l (i + 1)) = 0) : repD d l i = .ok (.mk 2 (tk l i).2 [] n [], i + 1) := by
  refine repD_ok ?_ hr
  rw [primD_eq, h, if_pos (show (nm n).kind = 1 from rfl)]
  rfl
/-- What is to follow a row of names. -/
theorem at_rpt {l : List Tok} {i : Nat} {cs : List UInt8} (h : At l i (cs.map fun c => nm [c])) (he : rpt (tk l (i + cs.length)) = 0) : rpt (tk l i) = 0 := by
  cases cs with
  | nil => simpa using he
  | cons c cs => exact nm_rpt h.1
theorem cat_names {d : Nat} {l : List Tok} : ∀ (cs : List UInt8) (n i : Nat) (t : T), At l i (cs.map fun c => nm [c]) → cs.length ≤ n → rpt (tk l (i + cs.length)) = 0 → beg (tk l (i + cs.length)) = false → Only t →
    ∃ u, catL (repD d l) n l i t = .ok (u, i + cs.length) ∧ vn u = vn t ++ cs.map (fun c => [c]) ∧ Only u
  | [], n, i, t, _, _, _, hb, ho => ⟨t, catL_stop (by simpa using hb) n, by simp, ho⟩
  | c :: cs, n + 1, i, t, h, hn, hr, hb, ho => by
    have e : i + (c :: cs).length = i + 1 + cs.length := by rw [List.length_cons]; omega
    rw [e] at hr hb ⊢
    have h2 : At l (i + 1) (cs.map fun c => nm [c]) := h.2
    obtain ⟨u, k1, k2, k3⟩ := cat_names (d := d) cs n (i + 1) (.mk 4 t.at_ [] [] [t, .mk 2 (tk l i).2 [] [c] []]) h2 (by simpa using hn) hr hb (only_cat ho (only_var _ _))
    refine ⟨u, ?_, ?_, k3⟩
    · rw [catL, if_pos (nm_beg h.1), rep_nm h.1 (at_rpt h2 hr)]
      exact k1
    · rw [k2, vn_cat, vn_var]
      simp
theorem parse_names (c : UInt8) (cs : List UInt8) (h : ∀ x ∈ c :: cs, X.isL x = true) : ∃ t, parse (nmT (c :: cs)) = .ok t ∧ vn t = (c :: cs).map (fun c => [c]) ∧ Only t := by
  have hs := Sc.names (c :: cs) h
  obtain ⟨ps, hp, e⟩ := hs.sc [] (.inl rfl) 0
  rw [List.append_nil, X.scan_nil] at e
  have hAt := at_zip [(⟨0, [], 0⟩, 0 + (nmT (c :: cs)).length)] ((c :: cs).map fun c => nm [c]) ps [] hp
  rw [List.nil_append] at hAt
  have e : X.scan 0 (nmT (c :: cs)) = .ok (((c :: cs).map fun c => nm [c]).zip ps ++ [(⟨0, [], 0⟩, 0 + (nmT (c :: cs)).length)]) := e
  have hz : (((c :: cs).map fun c => nm [c]).zip ps).length = cs.length + 1 := by simp [hp]
  have hend : tk (((c :: cs).map fun c => nm [c]).zip ps ++ [(⟨0, [], 0⟩, 0 + (nmT (c :: cs)).length)]) (0 + (c :: cs).length) = (⟨0, [], 0⟩, 0 + (nmT (c :: cs)).length) := by
    rw [tk, List.getD_eq_getElem?_getD, List.getElem?_append_right (by rw [hz, List.length_cons]; omega), hz]
    simp
  have hll : (((c :: cs).map fun c => nm [c]).zip ps ++ [((⟨0, [], 0⟩ : X.Tk), 0 + (nmT (c :: cs)).length)]).length = cs.length + 2 := by rw [List.length_append, hz]; rfl
  unfold parse
  rw [e]
  generalize (((c :: cs).map fun c => nm [c]).zip ps ++ [((⟨0, [], 0⟩ : X.Tk), 0 + (nmT (c :: cs)).length)] : List Tok) = l at *
  have hA : At l 0 ((c :: cs).map fun c => nm [c]) := hAt
  have h2 : At l 1 (cs.map fun c => nm [c]) := hA.2
  have el : 0 + (c :: cs).length = 1 + cs.length := by rw [List.length_cons]; omega
  rw [el] at hend
  have hr0 : rpt (tk l (1 + cs.length)) = 0 := by rw [hend]; rfl
  have hb0 : beg (tk l (1 + cs.length)) = false := by rw [hend]; rfl
  have hn0 : isS (tk l (1 + cs.length)) [124] = false := by rw [hend]; rfl
  obtain ⟨u, k1, k2, k3⟩ := cat_names (d := 20) cs l.length 1 (.mk 2 (tk l 0).2 [] [c] []) h2 (by omega) hr0 hb0 (only_var _ _)
  have ha : alt 20 l 0 = .ok (u, 1 + cs.length) := by
    rw [alt_eq]
    unfold altF catD catF
    rw [rep_nm hA.1 (at_rpt h2 hr0)]
    show (match catL (repD 20 l) l.length l 1 _ with | .error e => _ | .ok (t, j) => _) = _
    rw [k1]
    exact altL_stop hn0 _
  refine ⟨u, ?_, by rw [k2, vn_var]; rfl, k3⟩
  simp only [ha, hend]
  rfl
end E
end Go.Proofs.YteaaijhppmkfeaaGreatDoor
