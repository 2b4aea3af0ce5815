/- What is printed is read as the same expression: plain facts. -/
import Derived.Test.YteaaijhppmkfeaaGreatDoorPrn
import Derived.Test.YteaaijhppmkfeaaGreatDoorStv
namespace Go.Proofs.YteaaijhppmkfeaaGreatDoor
open Go.RowKit
namespace X
theorem scan_sgn (at_ : Nat) (c : UInt8) (h : c ∈ signs) (u : List UInt8) : scan at_ (c :: u) = (scan (at_ + 1) u).map fun l => (⟨6, [c], 0⟩, at_) :: l := by
  simp only [signs, List.mem_cons, List.not_mem_nil, or_false] at h
  refine scan_some at_ u ?_ ?_ ?_
  · rcases h with rfl | rfl | rfl | rfl | rfl | rfl | rfl | rfl | rfl | rfl | rfl | rfl | rfl <;> decide
  · rcases h with rfl | rfl | rfl | rfl | rfl | rfl | rfl | rfl | rfl | rfl | rfl | rfl | rfl <;> decide
  · rcases h with rfl | rfl | rfl | rfl | rfl | rfl | rfl | rfl | rfl | rfl | rfl | rfl | rfl <;> (unfold nextL; simp [isD, isL, signs])
end X
namespace E
def sg (c : UInt8) : X.Tk := ⟨6, [c], 0⟩
def ch (r : Int) : X.Tk := ⟨4, [], r⟩
def nm (n : List UInt8) : X.Tk := ⟨1, n, 0⟩
/-- Nothing that a name could go on with. -/
def Okv (v : List UInt8) : Prop := v = [] ∨ ∃ c u, v = c :: u ∧ X.isLD c = false
/-- A text that is read as these signs, whatever stands behind it. -/
structure Sc (s : List UInt8) (ts : List X.Tk) : Prop where
  hd : Okv s
  sc : ∀ v, Okv v → ∀ at_, ∃ ps : List Nat, ps.length = ts.length ∧ X.scan at_ (s ++ v) = (X.scan (at_ + s.length) v).map fun l => ts.zip ps ++ l
theorem Okv.app {s v : List UInt8} (h : Okv s) (hv : Okv v) : Okv (s ++ v) := by
  rcases h with rfl | ⟨c, u, rfl, h⟩
  · simpa using hv
  · exact .inr ⟨c, u ++ v, rfl, h⟩
theorem map_nil (r : Except Nat (List Tok)) : r = r.map fun l => ([] : List X.Tk).zip ([] : List Nat) ++ l := by cases r <;> rfl
theorem Sc.nil : Sc [] [] := ⟨.inl rfl, fun _ _ _ => ⟨[], rfl, map_nil _⟩⟩
theorem Sc.app {s1 s2 : List UInt8} {t1 t2 : List X.Tk} (h1 : Sc s1 t1) (h2 : Sc s2 t2) : Sc (s1 ++ s2) (t1 ++ t2) := by
  refine ⟨h1.hd.app h2.hd, fun v hv at_ => ?_⟩
  obtain ⟨p1, l1, e1⟩ := h1.sc (s2 ++ v) (h2.hd.app hv) at_
  obtain ⟨p2, l2, e2⟩ := h2.sc v hv (at_ + s1.length)
  refine ⟨p1 ++ p2, by simp [l1, l2], ?_⟩
  rw [List.append_assoc, e1, e2, List.length_append, Nat.add_assoc]
  cases X.scan (at_ + (s1.length + s2.length)) v with
  | error e => rfl
  | ok l =>
    show Except.ok (t1.zip p1 ++ (t2.zip p2 ++ l)) = Except.ok ((t1 ++ t2).zip (p1 ++ p2) ++ l)
    rw [List.zip_append l1.symm, List.append_assoc]
theorem Sc.sg {c : UInt8} (h : c ∈ X.signs) : Sc [c] [E.sg c] := by
  refine ⟨.inr ⟨c, [], rfl, ?_⟩, fun v _ at_ => ⟨[at_], rfl, ?_⟩⟩
  · simp only [X.signs, List.mem_cons, List.not_mem_nil, or_false] at h
    rcases h with rfl | rfl | rfl | rfl | rfl | rfl | rfl | rfl | rfl | rfl | rfl | rfl | rfl <;> decide
  · rw [List.cons_append, List.nil_append, X.scan_sgn at_ c h]
    rfl
theorem Sc.bl : Sc [32] [] := by
  refine ⟨.inr ⟨32, [], rfl, by decide⟩, fun v _ at_ => ⟨[], rfl, ?_⟩⟩
  rw [List.cons_append, List.nil_append, X.scan_blank at_ v (by decide)]
  exact map_nil _
theorem Sc.chr {r : Int} (h0 : 0 ≤ r) (h1 : r ≤ 1114111) : Sc (E.chr r) [ch r] := by
  have e : E.chr r = X.codeB r.toNat := by rw [chr_eq]; congr 1; omega
  rw [e]
  refine ⟨.inr ⟨39, _, rfl, by decide⟩, fun v _ at_ => ⟨[at_], rfl, ?_⟩⟩
  have hn := X.code_next (n := r.toNat) (by omega) v
  rw [if_pos (by omega)] at hn
  have hl : 1 ≤ (X.codeB r.toNat).length := by simp [X.codeB]
  have hc : ∃ u, X.codeB r.toNat = 39 :: u := ⟨_, rfl⟩
  obtain ⟨u, hu⟩ := hc
  rw [hu] at hn ⊢
  rw [List.cons_append] at hn ⊢
  rw [X.scan_some at_ (u ++ v) (by decide) (by decide) hn]
  rw [show ((39 :: (u ++ v)).drop (39 :: u).length) = v by rw [← List.cons_append, List.drop_left]]
  rw [show ((r.toNat : Nat) : Int) = r by omega]
  rfl
theorem nameP_all {n : List UInt8} (h : nameP n = true) : n.head?.map X.isL = some true ∧ n.takeWhile X.isLD = n ∧ n.length ≤ 20 := by
  unfold nameP at h
  rw [Bool.and_eq_true, decide_eq_true_eq] at h
  obtain ⟨h20, h⟩ := h
  by_cases hc : (n.head?.map X.isL) = some true ∧ (n.takeWhile X.isLD).length ≤ 20
  · have hn : X.nextL (36 :: n) = some (⟨1, n.takeWhile X.isLD, 0⟩, 1 + (n.takeWhile X.isLD).length) := by
      unfold X.nextL
      simp only
      rw [if_neg (by decide), if_pos trivial, if_pos hc]
    rw [X.scan_some 0 n (by decide) (by decide) hn] at h
    cases hs : X.scan (0 + (1 + (n.takeWhile X.isLD).length)) ((36 :: n).drop (1 + (n.takeWhile X.isLD).length)) with
    | error e => rw [hs] at h; simp [Except.map] at h
    | ok l =>
      rw [hs] at h
      simp only [Except.map, Bool.and_eq_true, beq_iff_eq] at h
      exact ⟨hc.1, h.2, h20⟩
  · have hn : X.nextL (36 :: n) = none := by
      unfold X.nextL
      simp only
      rw [if_neg (by decide), if_pos trivial, if_neg hc]
    rw [X.scan_none 0 n (by decide) (by decide) hn] at h
    simp at h
theorem Sc.nm {n : List UInt8} (h : nameP n = true) : Sc (36 :: n) [E.nm n] := by
  obtain ⟨h1, h2, h3⟩ := nameP_all h
  refine ⟨.inr ⟨36, n, rfl, by decide⟩, fun v hv at_ => ⟨[at_], rfl, ?_⟩⟩
  have hw : (n ++ v).takeWhile X.isLD = n := by
    rw [X.tw_stop hv, h2]
  have hh : (n ++ v).head?.map X.isL = some true := by
    cases n with
    | nil => simp at h1
    | cons c n => simpa using h1
  have hn : X.nextL (36 :: (n ++ v)) = some (⟨1, n, 0⟩, 1 + n.length) := by
    unfold X.nextL
    simp only
    rw [if_neg (by decide), if_pos trivial, hw, if_pos ⟨hh, h3⟩]
  rw [List.cons_append, X.scan_some at_ (n ++ v) (by decide) (by decide) hn]
  rw [show ((36 :: (n ++ v)).drop (1 + n.length)) = v by rw [Nat.add_comm, List.drop_succ_cons, List.drop_left]]
  rw [show at_ + (1 + n.length) = at_ + (36 :: n).length by rw [List.length_cons]; omega]
  rfl

/-- The signs of a row of ranges. -/
def rTk : Rs → List X.Tk
  | [] => []
  | r :: rs => (if r.1 = r.2 then [ch r.1] else [ch r.1, sg 45, ch r.2]) ++ rTk rs
theorem Sc.ranges : ∀ (b : Bool) (s : Rs), (∀ r ∈ s, 0 ≤ r.1 ∧ r.1 ≤ 1114111 ∧ 0 ≤ r.2 ∧ r.2 ≤ 1114111) → Sc (rangesT b s) (rTk s)
  | _, [], _ => Sc.nil
  | b, r :: rs, h => by
    have h1 := h r (by simp)
    have ih := Sc.ranges true rs (fun x hx => h x (by simp [hx]))
    rw [rangesT, rTk]
    have hb : Sc (if b = true then [32] else []) [] := by
      cases b
      · exact Sc.nil
      · exact Sc.bl
    have hc := Sc.chr h1.1 h1.2.1
    by_cases he : r.1 = r.2
    · rw [if_pos he, if_pos he]
      have := hb.app (hc.app (Sc.nil.app ih))
      simpa using this
    · rw [if_neg he, if_neg he]
      have hd := (Sc.sg (c := 45) (by decide)).app (Sc.chr h1.2.2.1 h1.2.2.2)
      have := hb.app (hc.app (hd.app ih))
      simpa using this
theorem rTk_len : ∀ (s : Rs), s.length ≤ (rTk s).length
  | [] => Nat.le_refl _
  | r :: rs => by
    have := rTk_len rs
    rw [rTk, List.length_append, List.length_cons]
    split <;> simp <;> omega

/-- Signs from a place on. -/
def At (l : List Tok) : Nat → List X.Tk → Prop
  | _, [] => True
  | i, t :: ts => (tk l i).1 = t ∧ At l (i + 1) ts
theorem At.app {l : List Tok} : ∀ {i : Nat} {xs ys : List X.Tk}, At l i (xs ++ ys) → At l i xs ∧ At l (i + xs.length) ys
  | i, [], ys, h => ⟨trivial, h⟩
  | i, x :: xs, ys, h => by
    obtain ⟨h1, h2⟩ := h
    obtain ⟨h3, h4⟩ := At.app (xs := xs) h2
    exact ⟨⟨h1, h3⟩, by rw [List.length_cons, show i + (xs.length + 1) = i + 1 + xs.length by omega]; exact h4⟩
theorem At.cast {l : List Tok} {i j : Nat} {ts : List X.Tk} (h : At l i ts) (e : i = j) : At l j ts := e ▸ h
theorem at_zip (r : List Tok) : ∀ (ts : List X.Tk) (ps : List Nat) (a : List Tok), ps.length = ts.length → At (a ++ (ts.zip ps ++ r)) a.length ts
  | [], _, _, _ => trivial
  | t :: ts, [], _, h => by simp at h
  | t :: ts, p :: ps, a, h => by
    refine ⟨?_, ?_⟩
    · simp [tk]
    · have := at_zip r ts ps (a ++ [(t, p)]) (by simpa using h)
      simpa using this
theorem isS_sg {l : List Tok} {i : Nat} {c : UInt8} (h : (tk l i).1 = sg c) (d : UInt8) : isS (tk l i) [d] = (c == d) := by
  unfold isS
  rw [h]
  simp [sg]
theorem isS_ch {l : List Tok} {i : Nat} {r : Int} (h : (tk l i).1 = ch r) (d : List UInt8) : isS (tk l i) d = false := by
  unfold isS
  rw [h]
  simp [ch]
theorem isS_nm {l : List Tok} {i : Nat} {n : List UInt8} (h : (tk l i).1 = nm n) (d : List UInt8) : isS (tk l i) d = false := by
  unfold isS
  rw [h]
  simp [nm]
theorem kind_of {l : List Tok} {i : Nat} {x : X.Tk} (h : (tk l i).1 = x) : (tk l i).1.kind = x.kind := by rw [h]

/-- What begins a row of ranges, or ends it. -/
theorem rTk_head {l : List Tok} {i : Nat} {s : Rs} (h : At l i (rTk s ++ [sg 93])) (d : UInt8) (hd : d ≠ 93) : isS (tk l i) [d] = false := by
  cases s with
  | nil =>
    rw [isS_sg h.1]
    simp; exact fun e => hd e.symm
  | cons r rs =>
    rw [rTk] at h
    split at h
    · exact isS_ch h.1 _
    · exact isS_ch h.1 _
theorem items_rTk {l : List Tok} : ∀ (s : Rs) (n i : Nat) (acc : Rs), (∀ r ∈ s, r.1 ≤ r.2) → s.length < n → At l i (rTk s ++ [sg 93]) → items n l i acc = .ok (acc ++ s, i + (rTk s).length)
  | [], n + 1, i, acc, _, _, h => by
    unfold items
    rw [if_pos (by rw [isS_sg h.1]; rfl), List.append_nil]
    rfl
  | r :: rs, n + 1, i, acc, hr, hn, h => by
    have h0 := rTk_head h
    rw [rTk, List.append_assoc] at h
    have hle := hr r (by simp)
    unfold items
    have e93 : isS (tk l i) [93] = false := by
      split at h
      · exact isS_ch h.1 _
      · exact isS_ch h.1 _
    rw [if_neg (by rw [e93]; decide)]
    by_cases he : r.1 = r.2
    · rw [if_pos he] at h
      obtain ⟨h1, h2⟩ := h
      have h2 : At l (i + 1) (rTk rs ++ [sg 93]) := h2
      have hi : item l i = .ok ([(r.1, r.1)], i + 1) := by
        unfold item
        rw [if_pos (by rw [h1]; rfl), if_neg (by rw [rTk_head h2 45 (by decide)]; decide), h1]
        rfl
      rw [hi]
      show items n l (i + 1) (acc ++ [(r.1, r.1)]) = _
      rw [items_rTk rs n (i + 1) _ (fun x hx => hr x (by simp [hx])) (by simpa using hn) h2, rTk, if_pos he]
      have : (r.1, r.1) = r := Prod.ext rfl he
      rw [this]
      refine congrArg Except.ok (Prod.ext (by simp) ?_)
      simp only [List.length_append, List.length_cons, List.length_nil]
      omega
    · rw [if_neg he] at h
      obtain ⟨h1, h2, h3, h4⟩ := h
      have h4 : At l (i + 3) (rTk rs ++ [sg 93]) := h4
      have h3 : (tk l (i + 2)).1 = ch r.2 := h3
      have hi : item l i = .ok ([(r.1, r.2)], i + 3) := by
        unfold item
        rw [if_pos (by rw [h1]; rfl), if_pos (by rw [isS_sg h2]; rfl), if_pos (by rw [h3]; rfl), h1, h3]
        rw [if_pos (show (ch r.1).r ≤ (ch r.2).r from hle)]
        rfl
      rw [hi]
      show items n l (i + 3) (acc ++ [(r.1, r.2)]) = _
      rw [items_rTk rs n (i + 3) _ (fun x hx => hr x (by simp [hx])) (by simpa using hn) h4, rTk, if_neg he]
      refine congrArg Except.ok (Prod.ext (by simp) ?_)
      simp only [List.length_append, List.length_cons, List.length_nil]
      omega
theorem set_canon {s : Rs} (h : U.S.Canon s) : U.S.set s = s := U.S.canon_eq (U.S.set_canon s) h fun p => by rw [U.S.set_has]; exact h.hs p
/-- An expression that can be printed. -/
inductive W : T → Prop
  | set (a : Int) (s : Rs) (h : s.length ≤ 200) (hc : U.S.Canon s) : W (.mk 1 a s [] [])
  | var (a : Int) (n : List UInt8) (h : nameP n = true) : W (.mk 2 a [] n [])
  | none (a : Int) : W (.mk 3 a [] [] [])
  | two (k a : Int) (t u : T) (hk : k = 4 ∨ k = 5) (h1 : W t) (h2 : W u) : W (.mk k a [] [] [t, u])
  | one (k a : Int) (t : T) (hk : k = 6 ∨ k = 7 ∨ k = 8) (h1 : W t) : W (.mk k a [] [] [t])
/-- The same but for places. -/
inductive Sim : T → T → Prop
  | leaf (k a b : Int) (s : Rs) (n : List UInt8) : Sim (.mk k a s n []) (.mk k b s n [])
  | one (k a b : Int) (s : Rs) (n : List UInt8) (t t' : T) (h : Sim t t') : Sim (.mk k a s n [t]) (.mk k b s n [t'])
  | two (k a b : Int) (s : Rs) (n : List UInt8) (t t' u u' : T) (h : Sim t t') (h2 : Sim u u') : Sim (.mk k a s n [t, u]) (.mk k b s n [t', u'])
mutual
theorem w_of : ∀ (t : T), (∀ p ∈ pre t t, NodeOk p.1) → W t
  | .mk k a s n ks, h => by
    have h0 := h (.mk k a s n ks, .mk k a s n ks) (by rw [pre]; exact List.mem_cons_self)
    have hk := ws_of ks (fun p hp => h p (by rw [pre]; exact List.mem_cons_of_mem _ hp))
    obtain ⟨h1, h2⟩ := h0
    simp only [T.kids, T.kind, T.set, T.name] at h1 h2
    have hn0 : ks.length = 0 → ks = [] := List.eq_nil_of_length_eq_zero
    rcases h2 with ⟨rfl, rfl, h3, h4⟩ | ⟨rfl, rfl, h3⟩ | ⟨h3, h4, rfl, rfl⟩
    · obtain rfl := hn0 (by have h1' : (ks.length : Int) = 0 := h1; omega)
      exact .set a s h3 h4
    · obtain rfl := hn0 (by have h1' : (ks.length : Int) = 0 := h1; omega)
      exact .var a n h3
    · by_cases k3 : k = 3
      · subst k3
        obtain rfl := hn0 (by have h1' : (ks.length : Int) = 0 := h1; omega)
        exact .none a
      · by_cases k45 : k = 4 ∨ k = 5
        · have : ks.length = 2 := by unfold kidsOf at h1; rw [if_pos k45] at h1; omega
          match ks, this, hk with
          | [t, u], _, hk => exact .two k a t u k45 (hk t (by simp)) (hk u (by simp))
        · have : ks.length = 1 := by unfold kidsOf at h1; rw [if_neg k45, if_pos (by omega)] at h1; omega
          match ks, this, hk with
          | [t], _, hk => exact .one k a t (by omega) (hk t (by simp))
theorem ws_of : ∀ (ts : List T), (∀ p ∈ preK ts ts, NodeOk p.1) → ∀ t ∈ ts, W t
  | [], _ => fun t ht => by cases ht
  | t :: ts, h => by
    rw [preK] at h
    have h1 := w_of t (fun p hp => h p (List.mem_append_left _ hp))
    have h2 := ws_of ts (fun p hp => h p (List.mem_append_right _ hp))
    intro u hu
    rcases List.mem_cons.1 hu with rfl | hu
    · exact h1
    · exact h2 u hu
end
/-- What begins an expression that was printed. -/
def HeadOk (x : X.Tk) : Prop := x = sg 91 ∨ x = sg 40 ∨ ∃ n, x = nm n
theorem hd_beg {l : List Tok} {i : Nat} (h : HeadOk (tk l i).1) : beg (tk l i) = true := by
  unfold beg
  rcases h with h | h | ⟨n, h⟩
  · rw [isS_sg h, isS_sg h, isS_sg h, h]; rfl
  · rw [isS_sg h, isS_sg h, isS_sg h, h]; rfl
  · rw [h]; rfl
theorem hd_no {l : List Tok} {i : Nat} (h : HeadOk (tk l i).1) (d : UInt8) (h1 : d ≠ 91) (h2 : d ≠ 40) : isS (tk l i) [d] = false := by
  rcases h with h | h | ⟨n, h⟩
  · rw [isS_sg h]; simp; exact fun e => h1 e.symm
  · rw [isS_sg h]; simp; exact fun e => h2 e.symm
  · exact isS_nm h _
theorem hd_rpt {l : List Tok} {i : Nat} (h : HeadOk (tk l i).1) : rpt (tk l i) = 0 := by
  unfold rpt
  rw [hd_no h 42 (by decide) (by decide), hd_no h 43 (by decide) (by decide), hd_no h 63 (by decide) (by decide)]
  rfl
theorem sg_rpt {l : List Tok} {i : Nat} {c : UInt8} (h : (tk l i).1 = sg c) : rpt (tk l i) = if c = 42 then 6 else if c = 43 then 7 else if c = 63 then 8 else 0 := by
  unfold rpt
  rw [isS_sg h, isS_sg h, isS_sg h]
  simp only [beq_iff_eq]
theorem sg_beg {l : List Tok} {i : Nat} {c : UInt8} (h : (tk l i).1 = sg c) (h1 : c ≠ 46) (h2 : c ≠ 40) (h3 : c ≠ 91) : beg (tk l i) = false := by
  unfold beg
  rw [isS_sg h, isS_sg h, isS_sg h, h]
  simp [sg, h1, h2, h3]
theorem repL_stop {l : List Tok} {i : Nat} {t : T} (h : rpt (tk l i) = 0) : ∀ n, repL n l i t = (t, i)
  | 0 => rfl
  | n + 1 => by unfold repL; rw [if_pos h]
theorem catL_stop {Q : Nat → Res} {l : List Tok} {i : Nat} {t : T} (h : beg (tk l i) = false) : ∀ n, catL Q n l i t = .ok (t, i)
  | 0 => rfl
  | n + 1 => by unfold catL; rw [if_neg (by rw [h]; decide)]
theorem altL_stop {Q : Nat → Res} {l : List Tok} {i : Nat} {t : T} (h : isS (tk l i) [124] = false) : ∀ n, altL Q n l i t = .ok (t, i)
  | 0 => rfl
  | n + 1 => by unfold altL; rw [if_neg (by rw [h]; decide)]
theorem repD_err {d : Nat} {l : List Tok} {i : Nat} {e : Nat × Nat} (h : primD d l i = .error e) : repD d l i = .error e := by
  unfold repD repF
  rw [h]
theorem repD_ok {d : Nat} {l : List Tok} {i j : Nat} {t : T} (h : primD d l i = .ok (t, j)) (hr : rpt (tk l j) = 0) : repD d l i = .ok (t, j) := by
  unfold repD repF
  rw [h]
  show Except.ok _ = Except.ok _
  rw [repL_stop hr]
theorem repD_one {d : Nat} {l : List Tok} {i j k : Nat} {t : T} (h : primD d l i = .ok (t, j)) (hk : rpt (tk l j) = k) (h0 : k ≠ 0) (hr : rpt (tk l (j + 1)) = 0) : repD d l i = .ok (.mk k t.at_ [] [] [t], j + 1) := by
  unfold repD repF
  rw [h]
  show Except.ok _ = Except.ok _
  have hl := rpt_lt (l := l) (i := j) (by rw [hk]; exact h0)
  obtain ⟨m, hm⟩ : ∃ m, l.length = m + 1 := ⟨l.length - 1, by omega⟩
  rw [hm, repL, if_neg (by rw [hk]; exact h0), repL_stop hr, hk]
/-- What is read of signs, or that they are nested too deep. -/
def Got (r : Res) (t : T) (j : Nat) : Prop := (∃ t', r = .ok (t', j) ∧ Sim t t') ∨ ∃ k, r = .error (71, k)
theorem primD_sq {d : Nat} {l : List Tok} {i : Nat} (h : (tk l i).1 = sg 91) : primD d l i = square l i := by
  rw [primD_eq, h, if_neg (by decide), if_neg (by decide), if_neg (by decide), isS_sg h, isS_sg h, isS_sg h]
  rfl
theorem primD_rd {d : Nat} {l : List Tok} {i : Nat} (h : (tk l i).1 = sg 40) : primD d l i = roundD d l i := by
  rw [primD_eq, h, if_neg (by decide), if_neg (by decide), if_neg (by decide), isS_sg h, isS_sg h]
  rfl
theorem square_rTk {l : List Tok} {i : Nat} {s : Rs} (h2 : s.length ≤ 200) (hc : U.S.Canon s) (h : At l i (sg 91 :: (rTk s ++ [sg 93]))) : square l i = .ok (.mk 1 (tk l i).2 s [] [], i + 1 + (rTk s).length + 1) := by
  obtain ⟨_, h1⟩ := h
  have hlast := (At.app h1).2.1
  have hlt : i + 1 + (rTk s).length < l.length := isS_lt (c := [93]) (by rw [isS_sg hlast]; rfl)
  have hs := rTk_len s
  unfold square
  rw [rTk_head h1 94 (by decide), if_neg (by decide), items_rTk s (l.length + 1) (i + 1) [] (fun r hr => ((U.S.good_iff r).1 (hc.good r hr)).2.1) (by omega) h1, List.nil_append]
  have hn := nL_good hc.good h2
  rw [set_canon hc] at hn
  show (if finE false s = 0 then _ else _) = _
  have e1 : finE false s = 0 := by unfold finE; simp [hn.2]
  have e2 : finS false s = s := by unfold finS; simp [hn.1]
  rw [if_pos e1, e2]
/-- A row within round brackets. -/
theorem round_got {d : Nat} {l : List Tok} {i j : Nat} {t : T} (h0 : (tk l i).1 = sg 40) (h1 : HeadOk (tk l (i + 1)).1) (hj : (tk l j).1 = sg 41)
    (hA : ∀ d, Got (alt d l (i + 1)) t j) : Got (primD d l i) t (j + 1) := by
  rw [primD_rd h0]
  cases d with
  | zero =>
    exact .inr ⟨i, rfl⟩
  | succ d =>
    show Got (round (alt d l) true l i) _ _
    unfold round
    rw [if_neg (by decide), if_neg (by rw [hd_no h1 41 (by decide) (by decide)]; decide)]
    rcases hA d with ⟨t', e, hs⟩ | ⟨k, e⟩
    · rw [e]
      refine .inl ⟨t', ?_, hs⟩
      show (if isS (tk l j) [41] = true then _ else _) = _
      rw [if_pos (by rw [isS_sg hj]; rfl)]
    · rw [e]
      exact .inr ⟨k, rfl⟩
theorem Got.rep {d : Nat} {l : List Tok} {i j : Nat} {t : T} (h : Got (primD d l i) t j) (hr : rpt (tk l j) = 0) : Got (repD d l i) t j := by
  rcases h with ⟨t', e, hs⟩ | ⟨k, e⟩
  · exact .inl ⟨t', repD_ok e hr, hs⟩
  · exact .inr ⟨k, repD_err e⟩
/-- One alone, to a closing bracket. -/
theorem Got.alt1 {d : Nat} {l : List Tok} {i j : Nat} {t : T} (h : Got (repD d l i) t j) (hb : beg (tk l j) = false) (hn : isS (tk l j) [124] = false) : Got (alt d l i) t j := by
  rw [alt_eq]
  unfold altF catD catF
  rcases h with ⟨t', e, hs⟩ | ⟨k, e⟩
  · rw [e]
    refine .inl ⟨t', ?_, hs⟩
    show (match catL (repD d l) l.length l j t' with | .error e => _ | .ok (t, j) => _) = _
    rw [catL_stop hb]
    exact altL_stop hn _
  · rw [e]
    exact .inr ⟨k, rfl⟩
theorem Got.cat2 {d : Nat} {l : List Tok} {i j m : Nat} {t u : T} (a : Int) (h1 : Got (repD d l i) t j) (hb : beg (tk l j) = true) (h2 : Got (repD d l j) u m) (hm : beg (tk l m) = false) (hn : isS (tk l m) [124] = false) : Got (alt d l i) (.mk 4 a [] [] [t, u]) m := by
  rw [alt_eq]
  unfold altF catD catF
  rcases h1 with ⟨t', e, hs⟩ | ⟨k, e⟩
  · rw [e]
    have hl := beg_lt hb
    obtain ⟨x, hx⟩ : ∃ x, l.length = x + 1 := ⟨l.length - 1, by omega⟩
    rcases h2 with ⟨u', e2, hs2⟩ | ⟨k, e2⟩
    · have hc : catL (repD d l) l.length l j t' = .ok (.mk 4 t'.at_ [] [] [t', u'], m) := by
        rw [hx, catL, if_pos hb, e2]
        exact catL_stop hm _
      refine .inl ⟨_, ?_, .two 4 a t'.at_ [] [] _ _ _ _ hs hs2⟩
      show (match catL (repD d l) l.length l j t' with | .error e => _ | .ok (t, j) => _) = _
      rw [hc]
      exact altL_stop hn _
    · have hc : catL (repD d l) l.length l j t' = .error (71, k) := by
        rw [hx, catL, if_pos hb, e2]
      refine .inr ⟨k, ?_⟩
      show (match catL (repD d l) l.length l j t' with | .error e => _ | .ok (t, j) => _) = _
      rw [hc]
  · rw [e]
    exact .inr ⟨k, rfl⟩
theorem Got.cat1 {d : Nat} {l : List Tok} {i j : Nat} {t : T} (h : Got (repD d l i) t j) (hb : beg (tk l j) = false) : Got (catD d l i) t j := by
  unfold catD catF
  rcases h with ⟨t', e, hs⟩ | ⟨k, e⟩
  · rw [e]
    exact .inl ⟨t', catL_stop hb _, hs⟩
  · rw [e]
    exact .inr ⟨k, rfl⟩
theorem Got.alt2 {d : Nat} {l : List Tok} {i j m : Nat} {t u : T} (a : Int) (h1 : Got (repD d l i) t j) (hj : (tk l j).1 = sg 124) (h2 : Got (repD d l (j + 1)) u m) (hm : beg (tk l m) = false) (hn : isS (tk l m) [124] = false) : Got (alt d l i) (.mk 5 a [] [] [t, u]) m := by
  have h1 := h1.cat1 (sg_beg hj (by decide) (by decide) (by decide))
  have h2 := h2.cat1 hm
  rw [alt_eq]
  unfold altF
  have hb : isS (tk l j) [124] = true := by rw [isS_sg hj]; rfl
  rcases h1 with ⟨t', e, hs⟩ | ⟨k, e⟩
  · rw [e]
    have hl := isS_lt hb
    obtain ⟨x, hx⟩ : ∃ x, l.length = x + 1 := ⟨l.length - 1, by omega⟩
    rcases h2 with ⟨u', e2, hs2⟩ | ⟨k, e2⟩
    · refine .inl ⟨.mk 5 t'.at_ [] [] [t', u'], ?_, .two 5 a t'.at_ [] [] _ _ _ _ hs hs2⟩
      show altL (catD d l) l.length l j t' = _
      rw [hx, altL, if_pos hb, e2]
      exact altL_stop hn _
    · refine .inr ⟨k, ?_⟩
      show altL (catD d l) l.length l j t' = _
      rw [hx, altL, if_pos hb, e2]
  · rw [e]
    exact .inr ⟨k, rfl⟩
/-- No fewer than the signs of a print. -/
def wt (t : T) : Nat := ((pre t t).map fun p => 3 * p.1.set.length + 5).sum
theorem wt_leaf (k a : Int) (s : Rs) (n : List UInt8) : wt (.mk k a s n []) = 3 * s.length + 5 := by simp [wt, pre, preK, T.set]
theorem wt_one (k a : Int) (t : T) : wt (.mk k a [] [] [t]) = 5 + wt t := by
  unfold wt
  rw [pre, T.kids, preK_cons, preK_nil, List.append_nil, List.map_cons, List.sum_cons]
  rfl
theorem wt_two (k a : Int) (t u : T) : wt (.mk k a [] [] [t, u]) = 5 + (wt t + wt u) := by
  unfold wt
  rw [pre, T.kids, preK_cons, preK_cons, preK_nil, List.append_nil, List.map_cons, List.sum_cons, List.map_append, List.sum_append]
  rfl
theorem rTk_most : ∀ (s : Rs), (rTk s).length ≤ 3 * s.length
  | [] => Nat.le_refl _
  | r :: rs => by
    have := rTk_most rs
    rw [rTk, List.length_append, List.length_cons]
    split <;> simp <;> omega
/-- Printed, and read again. -/
theorem back_all {t : T} (h : W t) : ∃ (x : X.Tk) (ts : List X.Tk), Sc (text t) (x :: ts) ∧ ts.length + 1 ≤ wt t ∧ HeadOk x ∧ ∀ (d : Nat) (l : List Tok) (i : Nat), At l i (x :: ts) → rpt (tk l (i + (ts.length + 1))) = 0 → Got (repD d l i) t (i + (ts.length + 1)) := by
  induction h with
  | set a s h2 hc =>
    have hr : ∀ r ∈ s, 0 ≤ r.1 ∧ r.1 ≤ 1114111 ∧ 0 ≤ r.2 ∧ r.2 ≤ 1114111 := fun r hr => by
      have := (U.S.good_iff r).1 (hc.good r hr)
      omega
    refine ⟨sg 91, rTk s ++ [sg 93], ?_, by rw [wt_leaf]; have := rTk_most s; simp; omega, .inl rfl, fun d l i hA hr => ?_⟩
    · rw [text, if_pos rfl, setT]
      exact (Sc.sg (c := 91) (by decide)).app ((Sc.ranges false s hr).app (Sc.sg (c := 93) (by decide)))
    · have e : i + ((rTk s ++ [sg 93]).length + 1) = i + 1 + (rTk s).length + 1 := by simp; omega
      rw [e] at hr ⊢
      exact Got.rep (.inl ⟨_, (primD_sq hA.1).trans (square_rTk h2 hc hA), .leaf 1 a _ s []⟩) hr
  | var a n h =>
    refine ⟨nm n, [], ?_, by rw [wt_leaf]; simp, .inr (.inr ⟨n, rfl⟩), fun d l i hA hr => ?_⟩
    · rw [text, if_neg (by decide), if_pos rfl]
      exact Sc.nm h
    · refine Got.rep (.inl ⟨.mk 2 (tk l i).2 [] n [], ?_, .leaf 2 a _ [] n⟩) hr
      rw [primD_eq, hA.1, if_pos (show (nm n).kind = 1 from rfl)]
      rfl
  | none a =>
    refine ⟨sg 40, [sg 41], ?_, by rw [wt_leaf]; simp, .inr (.inl rfl), fun d l i hA hr => ?_⟩
    · rw [text, if_neg (by decide), if_neg (by decide), if_pos rfl]
      exact (Sc.sg (c := 40) (by decide)).app (Sc.sg (c := 41) (by decide))
    · refine Got.rep ?_ hr
      rw [primD_rd hA.1]
      cases d with
      | zero => exact .inr ⟨i, rfl⟩
      | succ d =>
        refine .inl ⟨.mk 3 (tk l i).2 [] [] [], ?_, .leaf 3 a _ [] []⟩
        show round (alt d l) true l i = _
        unfold round
        rw [if_neg (by decide), if_pos (by rw [isS_sg hA.2.1]; rfl)]
        rfl
  | two k a t u hk h1 h2 ih1 ih2 =>
    obtain ⟨x1, t1, s1, n1, p1, g1⟩ := ih1
    obtain ⟨x2, t2, s2, n2, p2, g2⟩ := ih2
    rcases hk with rfl | rfl
    · refine ⟨sg 40, (x1 :: t1) ++ ((x2 :: t2) ++ [sg 41]), ?_, by rw [wt_two]; simp; omega, .inr (.inl rfl), fun d l i hA hr => ?_⟩
      · have := (Sc.sg (c := 40) (by decide)).app (s1.app (Sc.bl.app (s2.app (Sc.sg (c := 41) (by decide)))))
        have e : text (.mk 4 a [] [] [t, u]) = [40] ++ (text t ++ ([32] ++ (text u ++ [41]))) := by
          rw [text]
          simp [textK]
        rw [e]
        exact this
      · obtain ⟨h0, hA⟩ := hA
        obtain ⟨a1, hA⟩ := At.app hA
        obtain ⟨a2, a3⟩ := At.app hA
        have a3 := a3.1
        have e : i + (((x1 :: t1) ++ ((x2 :: t2) ++ [sg 41])).length + 1) = (i + 1 + (x1 :: t1).length + (x2 :: t2).length) + 1 := by simp; omega
        rw [e] at hr ⊢
        refine Got.rep (round_got h0 (by rw [a1.1]; exact p1) a3 fun d' => ?_) hr
        have r1 := g1 d' l (i + 1) a1 (hd_rpt (by have := a2.1; rw [List.length_cons] at this; rw [this]; exact p2))
        have r2 := g2 d' l (i + 1 + (x1 :: t1).length) a2 (by have := sg_rpt a3; exact this)
        exact Got.cat2 a r1 (hd_beg (by have := a2.1; rw [List.length_cons] at this; rw [this]; exact p2)) r2 (sg_beg a3 (by decide) (by decide) (by decide)) (by have := isS_sg a3 124; exact this)
    · refine ⟨sg 40, (x1 :: t1) ++ (sg 124 :: ((x2 :: t2) ++ [sg 41])), ?_, by rw [wt_two]; simp; omega, .inr (.inl rfl), fun d l i hA hr => ?_⟩
      · have := (Sc.sg (c := 40) (by decide)).app (s1.app ((Sc.bl.app ((Sc.sg (c := 124) (by decide)).app Sc.bl)).app (s2.app (Sc.sg (c := 41) (by decide)))))
        have e : text (.mk 5 a [] [] [t, u]) = [40] ++ (text t ++ (([32] ++ ([124] ++ [32])) ++ (text u ++ [41]))) := by
          rw [text]
          simp [textK]
        rw [e]
        exact this
      · obtain ⟨h0, hA⟩ := hA
        obtain ⟨a1, ab, hA⟩ := At.app hA
        obtain ⟨a2, a3⟩ := At.app hA
        have a3 := a3.1
        have e : i + (((x1 :: t1) ++ (sg 124 :: ((x2 :: t2) ++ [sg 41]))).length + 1) = (i + 1 + (x1 :: t1).length + 1 + (x2 :: t2).length) + 1 := by simp; omega
        rw [e] at hr ⊢
        refine Got.rep (round_got h0 (by rw [a1.1]; exact p1) a3 fun d' => ?_) hr
        have r1 := g1 d' l (i + 1) a1 (by have := sg_rpt ab; rw [List.length_cons] at this; exact this)
        have r2 := g2 d' l (i + 1 + (x1 :: t1).length + 1) a2 (by have := sg_rpt a3; exact this)
        exact Got.alt2 a r1 ab r2 (sg_beg a3 (by decide) (by decide) (by decide)) (isS_sg a3 124)
  | one k a t hk h1 ih1 =>
    obtain ⟨x1, t1, s1, n1, p1, g1⟩ := ih1
    obtain ⟨c, kn, hc, hs, hr0, e⟩ : ∃ (c : UInt8) (kn : Nat), c ∈ X.signs ∧ (kn : Int) = k ∧ kn ≠ 0 ∧ (text (.mk k a [] [] [t]) = [40] ++ (text t ++ ([41] ++ [c])) ∧ (if c = 42 then 6 else if c = 43 then 7 else if c = 63 then 8 else 0) = kn) := by
      rcases hk with rfl | rfl | rfl
      · exact ⟨42, 6, by decide, rfl, by decide, by rw [text]; simp [textK], rfl⟩
      · exact ⟨43, 7, by decide, rfl, by decide, by rw [text]; simp [textK], rfl⟩
      · exact ⟨63, 8, by decide, rfl, by decide, by rw [text]; simp [textK], rfl⟩
    obtain ⟨e, hkn⟩ := e
    refine ⟨sg 40, (x1 :: t1) ++ [sg 41, sg c], ?_, by rw [wt_one]; simp; omega, .inr (.inl rfl), fun d l i hA hr => ?_⟩
    · rw [e]
      exact (Sc.sg (c := 40) (by decide)).app (s1.app ((Sc.sg (c := 41) (by decide)).app (Sc.sg hc)))
    · obtain ⟨h0, hA⟩ := hA
      obtain ⟨a1, a2, a3, _⟩ := At.app hA
      have e : i + (((x1 :: t1) ++ [sg 41, sg c]).length + 1) = (i + 1 + (x1 :: t1).length) + 1 + 1 := by simp; omega
      rw [e] at hr ⊢
      have hp : Got (primD d l i) t (i + 1 + (x1 :: t1).length + 1) := round_got h0 (by rw [a1.1]; exact p1) a2 fun d' =>
        Got.alt1 (g1 d' l (i + 1) a1 (by have := sg_rpt a2; rw [List.length_cons] at this; exact this)) (sg_beg a2 (by decide) (by decide) (by decide)) (isS_sg a2 124)
      rcases hp with ⟨t', e1, hs1⟩ | ⟨j, e1⟩
      · refine .inl ⟨.mk kn t'.at_ [] [] [t'], repD_one e1 ((sg_rpt a3).trans hkn) hr0 hr, ?_⟩
        rw [hs]
        exact .one k a _ [] [] _ _ hs1
      · exact .inr ⟨j, repD_err e1⟩
theorem parse_text {t : T} (h : W t) : (∃ t', parse (text t) = .ok t' ∧ Sim t t') ∨ ∃ k, parse (text t) = .error (71, k) := by
  obtain ⟨x, ts, hs, _, hh, hg⟩ := back_all h
  obtain ⟨ps, hp, e⟩ := hs.sc [] (.inl rfl) 0
  rw [List.append_nil, X.scan_nil] at e
  have hAt := at_zip [(⟨0, [], 0⟩, 0 + (text t).length)] (x :: ts) ps [] hp
  rw [List.nil_append] at hAt
  have e : X.scan 0 (text t) = .ok ((x :: ts).zip ps ++ [(⟨0, [], 0⟩, 0 + (text t).length)]) := e
  have hend : tk ((x :: ts).zip ps ++ [(⟨0, [], 0⟩, 0 + (text t).length)]) (ts.length + 1) = (⟨0, [], 0⟩, 0 + (text t).length) := by
    have hz : ((x :: ts).zip ps).length = ts.length + 1 := by simp [hp]
    rw [tk, List.getD_eq_getElem?_getD, List.getElem?_append_right (by omega), hz]
    simp
  unfold parse
  rw [e]
  generalize (x :: ts).zip ps ++ [(⟨0, [], 0⟩, 0 + (text t).length)] = l at *
  have hg := hg 20 l 0 hAt (by rw [Nat.zero_add, hend]; rfl)
  rw [Nat.zero_add] at hg
  have hg := hg.alt1 (by rw [hend]; rfl) (by rw [hend]; rfl)
  rcases hg with ⟨t', e1, hs1⟩ | ⟨j, e1⟩
  · left
    refine ⟨t', ?_, hs1⟩
    simp only [e1, hend]
    rfl
  · right
    exact ⟨(tk l j).2, by simp only [e1]⟩
theorem text_toks {t : T} (h : W t) (l : List Tok) (hl : X.scan 0 (text t) = .ok l) : l.length ≤ wt t + 1 := by
  obtain ⟨x, ts, hs, hw, _, _⟩ := back_all h
  obtain ⟨ps, hp, e⟩ := hs.sc [] (.inl rfl) 0
  rw [List.append_nil, X.scan_nil, hl] at e
  have e : Except.ok l = .ok ((x :: ts).zip ps ++ [(⟨0, [], 0⟩, 0 + (text t).length)]) := e
  injection e with e
  rw [e]
  simp [hp]
  omega
theorem sim_text {t t' : T} (h : Sim t t') : text t' = text t := by
  induction h with
  | leaf k a b s n => rw [text, text]
  | one k a b s n t t' h ih => simp only [text, textK, ih]
  | two k a b s n t t' u u' h h2 ih ih2 => simp only [text, textK, ih, ih2]
/-- Two nodes alike but for places and kids. -/
def Like (x y : T) : Prop := x.kind = y.kind ∧ x.name = y.name ∧ x.set = y.set ∧ x.kids.length = y.kids.length
def key (p : T × T) : Int × List UInt8 × Rs × Nat := (p.1.kind, p.1.name, p.1.set, p.1.kids.length)
theorem sim_like {t t' : T} (h : Sim t t') : (∀ p ∈ pre t t', Like p.1 p.2) ∧ (pre t t').length = (pre t t).length ∧ (pre t' t').map key = (pre t t).map key := by
  induction h with
  | leaf k a b s n =>
    simp [pre, preK, T.kids, Like, T.kind, T.name, T.set, key]
  | one k a b s n t t' h ih =>
    obtain ⟨i1, i2, i3⟩ := ih
    refine ⟨?_, ?_, ?_⟩
    · intro p hp
      rw [pre, T.kids, preK_cons, preK_nil, List.append_nil] at hp
      rcases List.mem_cons.1 hp with rfl | hp
      · exact ⟨rfl, rfl, rfl, rfl⟩
      · exact i1 p hp
    · simp only [pre, T.kids, preK_cons, preK_nil, List.append_nil, List.length_cons, i2]
    · simp only [pre, T.kids, preK_cons, preK_nil, List.append_nil, List.map_cons, i3]
      rfl
  | two k a b s n t t' u u' h h2 ih ih2 =>
    obtain ⟨i1, i2, i3⟩ := ih
    obtain ⟨q1, q2, q3⟩ := ih2
    refine ⟨?_, ?_, ?_⟩
    · intro p hp
      rw [pre, T.kids, preK_cons, preK_cons, preK_nil, List.append_nil] at hp
      rcases List.mem_cons.1 hp with rfl | hp
      · exact ⟨rfl, rfl, rfl, rfl⟩
      · rcases List.mem_append.1 hp with hp | hp
        · exact i1 p hp
        · exact q1 p hp
    · simp only [pre, T.kids, preK_cons, preK_nil, List.append_nil, List.length_cons, List.length_append, i2, q2]
    · simp only [pre, T.kids, preK_cons, preK_nil, List.append_nil, List.map_cons, List.map_append, i3, q3]
      rfl
theorem NodeOk.like {x y : T} (h : NodeOk x) (e : (y.kind, y.name, y.set, y.kids.length) = (x.kind, x.name, x.set, x.kids.length)) : NodeOk y := by
  simp only [Prod.mk.injEq] at e
  unfold NodeOk
  rw [e.1, e.2.1, e.2.2.1, e.2.2.2]
  exact h
theorem sim_is {t t' : T} (h : Sim t t') (hi : IsP t) : IsP t' := by
  obtain ⟨_, _, h3⟩ := sim_like h
  refine ⟨?_, fun p hp => ?_⟩
  · have := congrArg List.length h3
    simp only [List.length_map] at this
    rw [this]
    exact hi.1
  · have := List.mem_map_of_mem (f := key) hp
    rw [h3] at this
    obtain ⟨q, hq, e⟩ := List.mem_map.1 this
    exact (hi.2 q hq).like e.symm
theorem sim_prn {t t' : T} (h : Sim t t') (hi : IsP t) : prn t' = prn t := by
  unfold prn
  rw [if_pos hi, if_pos (sim_is h hi), sim_text h]

theorem rng_ite {c : Prop} [Decidable c] {a b : Rs} (h1 : a.all U.S.good = true) (h2 : b.all U.S.good = true) : (if c then a else b).all U.S.good = true := by
  split
  · exact h1
  · exact h2
theorem tl_rng (s : List UInt8) : ∀ r ∈ U.tl s, 0 ≤ r.1 ∧ r.1 ≤ r.2 ∧ r.2 ≤ 1114111 := by
  have h : (U.tl s).all U.S.good = true := by
    unfold U.tl
    repeat' apply rng_ite
    all_goals decide
  intro r hr
  exact (U.S.good_iff r).1 (List.all_eq_true.1 h r hr)
theorem nL_rng (xs : Rs) : (nL xs).length ≤ 200 ∧ ∀ r ∈ nL xs, 0 ≤ r.1 ∧ r.1 ≤ r.2 ∧ r.2 ≤ 1114111 := by
  unfold nL
  split
  · rename_i h
    exact ⟨h.2, fun r hr => (U.S.good_iff r).1 ((U.S.set_canon xs).good r hr)⟩
  · exact ⟨by simp, fun r hr => by cases hr⟩
theorem finS_rng (nt : Bool) (acc : Rs) : (finS nt acc).length ≤ 200 ∧ ∀ r ∈ finS nt acc, 0 ≤ r.1 ∧ r.1 ≤ r.2 ∧ r.2 ≤ 1114111 := by
  unfold finS
  split
  · exact nL_rng _
  · exact nL_rng _
theorem nL_len (xs : Rs) : (nL xs).length ≤ xs.length := by
  unfold nL
  split
  · exact U.S.set_length xs
  · simp
theorem finS_len (nt : Bool) (acc : Rs) : (finS nt acc).length ≤ acc.length + 1 := by
  unfold finS
  have h1 := nL_len acc
  split
  · have h2 := nL_len (U.S.not (nL acc))
    have h3 := not_lenS (nL acc)
    omega
  · omega
/-- What holds of all that is read. -/
theorem alt_all {l : List Tok} (M : T → Nat → Nat → Prop)
    (hname : ∀ i j a, i < j → j ≤ l.length → M (.mk 2 a [] (tk l i).1.text []) i j) (hset : ∀ i j a (s : Rs), i < j → j ≤ l.length → s.length ≤ 200 → s.length ≤ 8 * (j - i) + 1 → (∀ r ∈ s, 0 ≤ r.1 ∧ r.1 ≤ r.2 ∧ r.2 ≤ 1114111) → M (.mk 1 a s [] []) i j)
    (hnone : ∀ i a, M (.mk 3 a [] [] []) i (i + 2)) (hround : ∀ t i j, M t (i + 1) j → M t i (j + 1)) (hrep : ∀ t i j (k : Int), k = 6 ∨ k = 7 ∨ k = 8 → M t i j → M (.mk k t.at_ [] [] [t]) i (j + 1))
    (htwo : ∀ t u i j m n (k : Int), k = 4 ∨ k = 5 → M t i j → j ≤ m → M u m n → M (.mk k t.at_ [] [] [t, u]) i n) (hg : Good l) :
    ∀ d i t j, alt d l i = .ok (t, j) → M t i j := by
  have hprim : ∀ d, (∀ d', d = d' + 1 → ∀ i t j, alt d' l i = .ok (t, j) → M t i j) → ∀ i t j, primD d l i = .ok (t, j) → M t i j := by
    intro d ih i t j h
    have hf := primD_far l d i t j h
    rw [primD_eq] at h
    have hgi := tk_good hg i
    split at h
    · cases h
      exact hname i _ _ hf.1 hf.2
    · split at h
      · cases h
        exact hset i _ _ _ hf.1 hf.2 (by simp) (by simp) (by simp; omega)
      · split at h
        · split at h
          · cases h
            exact hset i _ _ _ hf.1 hf.2 (by have := tl_len (tk l i).1.text; omega) (by have := tl_len (tk l i).1.text; omega) (tl_rng _)
          · cases h
        · split at h
          · cases h
            exact hset i _ _ _ hf.1 hf.2 (by simp) (by simp) (by simp)
          · split at h
            · cases d with
              | zero => cases h
              | succ d =>
                have h : round (alt d l) true l i = .ok (t, j) := h
                unfold round at h
                rw [if_neg (by decide)] at h
                split at h
                · cases h
                  exact hnone i _
                · split at h
                  · cases h
                  · rename_i e k hk
                    split at h
                    · cases h
                      exact hround _ _ _ (ih d rfl _ _ _ hk)
                    · cases h
            · split at h
              · unfold square at h
                split at h
                · cases h
                · rename_i acc k hk
                  have hfar := items_far _ hk
                  split at h
                  · cases h
                    refine hset i _ _ _ hf.1 hf.2 (finS_rng _ _).1 ?_ (finS_rng _ _).2
                    have h1 := finS_len (isS (tk l (i + 1)) [94]) acc
                    have h2 := hfar.2.2.2
                    have h3 := hfar.1
                    rw [List.length_nil] at h2
                    split at h2 <;> split at h3 <;> first | omega | contradiction
                  · cases h
              · cases h
  have hrepD : ∀ d, (∀ i t j, primD d l i = .ok (t, j) → M t i j) → ∀ i t j, repD d l i = .ok (t, j) → M t i j := by
    intro d hp i t j h
    unfold repD repF at h
    split at h
    · cases h
    · rename_i u k hk
      have h0 := hp _ _ _ hk
      have h3 : repL l.length l k u = (t, j) := by injection h
      clear h hk
      generalize l.length = n at h3
      induction n generalizing k u with
      | zero => cases h3; exact h0
      | succ n ih =>
        unfold repL at h3
        split at h3
        · cases h3; exact h0
        · rename_i q
          refine ih _ _ (hrep _ _ _ _ ?_ h0) h3
          unfold rpt at q ⊢
          split
          · simp
          · split
            · simp
            · split
              · simp
              · rename_i q1 q2 q3
                rw [if_neg q1, if_neg q2, if_neg q3] at q
                exact absurd rfl q
  have hcatD : ∀ d, (∀ i t j, repD d l i = .ok (t, j) → M t i j) → ∀ i t j, catD d l i = .ok (t, j) → M t i j := by
    intro d hp i t j h
    unfold catD catF at h
    split at h
    · cases h
    · rename_i u k hk
      have h0 := hp _ _ _ hk
      clear hk
      generalize l.length = n at h
      induction n generalizing k u with
      | zero => unfold catL at h; cases h; exact h0
      | succ n ih =>
        unfold catL at h
        split at h
        · split at h
          · cases h
          · rename_i v m hm
            exact ih _ _ (htwo _ _ _ _ _ _ 4 (.inl rfl) h0 (Nat.le_refl _) (hp _ _ _ hm)) h
        · cases h; exact h0
  have haltD : ∀ d, (∀ i t j, catD d l i = .ok (t, j) → M t i j) → ∀ i t j, alt d l i = .ok (t, j) → M t i j := by
    intro d hp i t j h
    rw [alt_eq] at h
    unfold altF at h
    split at h
    · cases h
    · rename_i u k hk
      have h0 := hp _ _ _ hk
      clear hk
      generalize l.length = n at h
      induction n generalizing k u with
      | zero => unfold altL at h; cases h; exact h0
      | succ n ih =>
        unfold altL at h
        split at h
        · split at h
          · cases h
          · rename_i v m hm
            exact ih _ _ (htwo _ _ _ _ _ _ 5 (.inr rfl) h0 (Nat.le_succ _) (hp _ _ _ hm)) h
        · cases h; exact h0
  intro d
  induction d with
  | zero => exact haltD 0 (hcatD 0 (hrepD 0 (hprim 0 (fun d' e => by cases e))))
  | succ d ih => exact haltD _ (hcatD _ (hrepD _ (hprim _ (fun d' e => by cases e; exact ih))))
/-- Few nodes, within Go's bounds. -/
theorem alt_bounds {l : List Tok} (hg : Good l) (d i : Nat) (t : T) (j : Nat) (h : alt d l i = .ok (t, j)) : (pre t t).length + 1 ≤ 2 * (j - i) ∧ ∀ p ∈ pre t t, NodeB p.1 := by
  have hleaf : ∀ (k a : Int) (s : Rs) (n : List UInt8) (i j : Nat), i < j → s.length ≤ 200 → (∀ r ∈ s, 0 ≤ r.1 ∧ r.1 ≤ r.2 ∧ r.2 ≤ 1114111) → n.length ≤ 100000 →
      i < j ∧ (pre (.mk k a s n []) (.mk k a s n [])).length + 1 ≤ 2 * (j - i) ∧ ∀ p ∈ pre (.mk k a s n []) (.mk k a s n []), NodeB p.1 := by
    intro k a s n i j h1 h2 h3 h4
    rw [pre, preK_nil]
    refine ⟨h1, by simp; omega, fun p hp => ?_⟩
    obtain rfl : p = (.mk k a s n [], .mk k a s n []) := by simpa using hp
    refine ⟨fun r hr => ?_, by show n.length ≤ _; omega, by show s.length ≤ _; omega, by show 0 ≤ _; omega⟩
    have := h3 r hr
    omega
  refine (alt_all (M := fun t i j => i < j ∧ (pre t t).length + 1 ≤ 2 * (j - i) ∧ ∀ p ∈ pre t t, NodeB p.1) ?_ ?_ ?_ ?_ ?_ ?_ hg d i t j h).2
  · intro i j a h1 _
    exact hleaf 2 a [] _ i j h1 (by simp) (by simp) (tk_good hg i).2.2
  · intro i j a s h1 _ h3 _ h4
    exact hleaf 1 a s [] i j h1 h3 h4 (by simp)
  · intro i a
    exact hleaf 3 a [] [] i (i + 2) (by omega) (by simp) (by simp) (by simp)
  · intro t i j h
    exact ⟨by omega, by omega, h.2.2⟩
  · intro t i j k hk h
    rw [pre, T.kids, preK_cons, preK_nil, List.append_nil]
    refine ⟨by omega, by rw [List.length_cons]; omega, fun p hp => ?_⟩
    rcases List.mem_cons.1 hp with rfl | hp
    · simp [NodeB, T.set, T.name, T.kids]
    · exact h.2.2 p hp
  · intro t u i j m n k hk h hm h2
    rw [pre, T.kids, preK_cons, preK_cons, preK_nil, List.append_nil]
    refine ⟨by omega, by rw [List.length_cons, List.length_append]; omega, fun p hp => ?_⟩
    rcases List.mem_cons.1 hp with rfl | hp
    · simp [NodeB, T.set, T.name, T.kids]
    · rcases List.mem_append.1 hp with hp | hp
      · exact h.2.2 p hp
      · exact h2.2.2 p hp
theorem tk_at {s : List UInt8} {l : List Tok} (h : X.scan 0 s = .ok l) (j : Nat) : (tk l j).2 ≤ s.length := by
  obtain ⟨l', rfl, h1, _⟩ := (X.scan_out 0 s).1 l h
  by_cases hj : j < (l' ++ [(X.tEnd, 0 + s.length)]).length
  · have e : tk (l' ++ [(X.tEnd, 0 + s.length)]) j = (l' ++ [(X.tEnd, 0 + s.length)])[j] := by rw [tk, List.getD_eq_getElem?_getD, List.getElem?_eq_getElem hj]; rfl
    rw [e]
    rcases List.mem_append.1 (List.getElem_mem hj) with h2 | h2
    · have := (h1 _ h2).2.2
      omega
    · rw [List.mem_singleton] at h2
      rw [h2]
      simp
  · rw [tk, List.getD_eq_getElem?_getD, List.getElem?_eq_none (by omega)]
    exact Nat.zero_le _
theorem parse_at {s : List UInt8} {c k : Nat} (h : parse s = .error (c, k)) : k ≤ s.length := by
  unfold parse at h
  cases hs : X.scan 0 s with
  | error e =>
    rw [hs] at h
    cases h
    have := (X.scan_out 0 s).2 _ hs
    omega
  | ok l =>
    rw [hs] at h
    simp only at h
    cases ha : alt 20 l 0 with
    | error e =>
      rw [ha] at h
      cases h
      exact tk_at hs _
    | ok p =>
      rw [ha] at h
      simp only at h
      split at h
      · cases h
      · cases h
        exact tk_at hs _
/-- How long a print is. -/
theorem text_bounds {l : List Tok} (hg : Good l) (h3 : ∀ x ∈ l, x.1.text.length ≤ 300) (d i : Nat) (t : T) (j : Nat) (h : alt d l i = .ok (t, j)) : (text t).length ≤ 320 * (j - i) := by
  have h3' : ∀ i, (tk l i).1.text.length ≤ 300 := by
    intro i
    by_cases hi : i < l.length
    · have e : tk l i = l[i] := by rw [tk, List.getD_eq_getElem?_getD, List.getElem?_eq_getElem hi]; rfl
      rw [e]
      exact h3 _ (List.getElem_mem hi)
    · rw [tk, List.getD_eq_getElem?_getD, List.getElem?_eq_none (by omega)]
      exact Nat.zero_le _
  have := (alt_all (M := fun t i j => i < j ∧ (text t).length + 8 ≤ 320 * (j - i)) ?_ ?_ ?_ ?_ ?_ ?_ hg d i t j h).2
  · omega
  · intro i j a h1 _
    have := h3' i
    rw [text, if_neg (by decide), if_pos rfl]
    exact ⟨h1, by rw [List.length_cons]; omega⟩
  · intro i j a s h1 _ _ h4 h5
    have := rangesT_len false s (fun r hr => by have := h5 r hr; omega)
    rw [text, if_pos rfl, setT]
    exact ⟨h1, by rw [List.length_cons, List.length_append, List.length_singleton]; omega⟩
  · intro i a
    rw [text, if_neg (by decide), if_neg (by decide), if_pos rfl]
    exact ⟨by omega, by simp⟩
  · intro t i j h
    exact ⟨by omega, by omega⟩
  · intro t i j k hk h
    refine ⟨by omega, ?_⟩
    rcases hk with rfl | rfl | rfl <;> (rw [text]; simp [textK]; omega)
  · intro t u i j m n k hk h hm h2
    refine ⟨by omega, ?_⟩
    rcases hk with rfl | rfl <;> (rw [text]; simp [textK]; omega)
theorem wt_bounds {l : List Tok} (hg : Good l) (d i : Nat) (t : T) (j : Nat) (h : alt d l i = .ok (t, j)) : wt t ≤ 40 * (j - i) := by
  have := (alt_all (M := fun t i j => i < j ∧ wt t + 5 ≤ 40 * (j - i)) ?_ ?_ ?_ ?_ ?_ ?_ hg d i t j h).2
  · omega
  · intro i j a h1 _
    rw [wt_leaf]
    exact ⟨h1, by simp; omega⟩
  · intro i j a s h1 _ _ h4 _
    rw [wt_leaf]
    exact ⟨h1, by omega⟩
  · intro i a
    rw [wt_leaf]
    exact ⟨by omega, by simp⟩
  · intro t i j h
    exact ⟨by omega, by omega⟩
  · intro t i j k hk h
    rw [wt_one]
    exact ⟨by omega, by omega⟩
  · intro t u i j m n k hk h hm h2
    rw [wt_two]
    exact ⟨by omega, by omega⟩
end E
open E (T)
theorem TR.parts {w : World} {ok : Nat → Prop} {t : T} {d : ND} (h : TR w ok t d.v) : d.k = t.kind ∧ d.n = ⟨t.name.toArray⟩ ∧ d.sl = t.set.length ∧ U.RdR w d.sp t.set ∧ d.kl = t.kids.length := by
  cases t with
  | mk k a s n ks =>
    rw [TR] at h
    obtain ⟨sp, sc, kp, kc, e, h1, h2, h3⟩ := h
    unfold ND.v at e
    simp only [Value.agg.injEq, Array.mk.injEq, List.cons.injEq, Value.int.injEq, Value.slice.injEq, Value.string.injEq, and_true, true_and] at e
    obtain ⟨e1, e2, ⟨e3, e4, e5⟩, e6, e7, e8, e9⟩ := e
    exact ⟨e1, e6, e4, by rw [e3]; exact h1, e8⟩
end Go.Proofs.YteaaijhppmkfeaaGreatDoor
