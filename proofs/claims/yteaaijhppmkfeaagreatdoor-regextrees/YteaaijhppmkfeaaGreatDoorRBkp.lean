/- What is printed is read as the same expression: plain facts. -/
import Derived.Test.YteaaijhppmkfeaaGreatDoorRPrn
import Derived.Test.YteaaijhppmkfeaaGreatDoorRStv
namespace Go.Proofs.YteaaijhppmkfeaaGreatDoor
open Go.RowKit
namespace X
theorem scan_sgn (at_ : Nat) (c : UInt8) (h : c ∈ signs) (u : List UInt8) : scan at_ (c :: u) = (scan (at_ + 1) u).map fun l => (⟨6, [c], 0⟩, at_) :: l := by
 simp only [signs, List.mem_cons, List.not_mem_nil, or_false] at h
 refine scan_some at_ u ?_ ?_ ?_
 · rcases h with rfl | rfl | rfl | rfl | rfl | rfl | rfl | rfl | rfl | rfl | rfl | rfl | rfl <;> decide
 · rcases h with rfl | rfl | rfl | rfl | rfl | rfl | rfl | rfl | rfl | rfl | rfl | rfl | rfl <;> decide
 · rcases h with rfl | rfl | rfl | rfl | rfl | rfl | rfl | rfl | rfl | rfl | rfl | rfl | rfl <;> (unfold nextL; simp [isD, isL, signs])
end X
namespace E
def sg (c : UInt8) : X.Tk := ⟨6, [c], 0⟩
def ch (r : Int) : X.Tk := ⟨4, [], r⟩
def nm (n : List UInt8) : X.Tk := ⟨1, n, 0⟩
def Okv (v : List UInt8) : Prop := v = [] ∨ ∃ c u, v = c :: u ∧ X.isLD c = false
structure Sc (s : List UInt8) (ts : List X.Tk) : Prop where
 hd : Okv s
 sc : ∀ v, Okv v → ∀ at_, ∃ ps : List Nat, ps.length = ts.length ∧ X.scan at_ (s ++ v) = (X.scan (at_ + s.length) v).map fun l => ts.zip ps ++ l
theorem Okv.app {s v : List UInt8} (h : Okv s) (hv : Okv v) : Okv (s ++ v) := by
 rcases h with rfl | ⟨c, u, rfl, h⟩
 · simpa using hv
 · exact .inr ⟨c, u ++ v, rfl, h⟩
theorem map_nil (r : Except Nat (List Tok)) : r = r.map fun l => ([] : List X.Tk).zip ([] : List Nat) ++ l := by cases r <;> rfl
theorem Sc.nil : Sc [] [] := ⟨.inl rfl, fun _ _ _ => ⟨[], rfl, map_nil _⟩⟩
theorem Sc.app {s1 s2 : List UInt8} {t1 t2 : List X.Tk} (h1 : Sc s1 t1) (h2 : Sc s2 t2) : Sc (s1 ++ s2) (t1 ++ t2) := by
 refine ⟨h1.hd.app h2.hd, fun v hv at_ => ?_⟩
 obtain ⟨p1, l1, e1⟩ := h1.sc (s2 ++ v) (h2.hd.app hv) at_
 obtain ⟨p2, l2, e2⟩ := h2.sc v hv (at_ + s1.length)
 refine ⟨p1 ++ p2, by simp [l1, l2], ?_⟩
 rw [List.append_assoc, e1, e2, List.length_append, Nat.add_assoc]
 cases X.scan (at_ + (s1.length + s2.length)) v with
 | error e => rfl
 | ok l =>
   show Except.ok (t1.zip p1 ++ (t2.zip p2 ++ l)) = Except.ok ((t1 ++ t2).zip (p1 ++ p2) ++ l)
   rw [List.zip_append l1.symm, List.append_assoc]
theorem Sc.sg {c : UInt8} (h : c ∈ X.signs) : Sc [c] [E.sg c] := by
 refine ⟨.inr ⟨c, [], rfl, ?_⟩, fun v _ at_ => ⟨[at_], rfl, ?_⟩⟩
 · simp only [X.signs, List.mem_cons, List.not_mem_nil, or_false] at h
   rcases h with rfl | rfl | rfl | rfl | rfl | rfl | rfl | rfl | rfl | rfl | rfl | rfl | rfl <;> decide
 · rw [List.cons_append, List.nil_append, X.scan_sgn at_ c h]
   rfl
theorem Sc.bl : Sc [32] [] := by
 refine ⟨.inr ⟨32, [], rfl, by decide⟩, fun v _ at_ => ⟨[], rfl, ?_⟩⟩
 rw [List.cons_append, List.nil_append, X.scan_blank at_ v (by decide)]
 exact map_nil _
theorem Sc.chr {r : Int} (h0 : 0 ≤ r) (h1 : r ≤ 1114111) : Sc (E.chr r) [ch r] := by
 have e : E.chr r = X.codeB r.toNat := by rw [chr_eq]; congr 1; omega
 rw [e]
 refine ⟨.inr ⟨39, _, rfl, by decide⟩, fun v _ at_ => ⟨[at_], rfl, ?_⟩⟩
 have hn := X.code_next (n := r.toNat) (by omega) v
 rw [if_pos (by omega)] at hn
 have hl : 1 ≤ (X.codeB r.toNat).length := by simp [X.codeB]
 have hc : ∃ u, X.codeB r.toNat = 39 :: u := ⟨_, rfl⟩
 obtain ⟨u, hu⟩ := hc
 rw [hu] at hn ⊢
 rw [List.cons_append] at hn ⊢
 rw [X.scan_some at_ (u ++ v) (by decide) (by decide) hn]
 rw [show ((39 :: (u ++ v)).drop (39 :: u).length) = v by rw [← List.cons_append, List.drop_left]]
 rw [show ((r.toNat : Nat) : Int) = r by omega]
 rfl
theorem nameP_all {n : List UInt8} (h : nameP n = true) : n.head?.map X.isL = some true ∧ n.takeWhile X.isLD = n ∧ n.length ≤ 20 := by
 unfold nameP at h
 rw [Bool.and_eq_true, decide_eq_true_eq] at h
 obtain ⟨h20, h⟩ := h
 by_cases hc : (n.head?.map X.isL) = some true ∧ (n.takeWhile X.isLD).length ≤ 20
 · have hn : X.nextL (36 :: n) = some (⟨1, n.takeWhile X.isLD, 0⟩, 1 + (n.takeWhile X.isLD).length) := by
     unfold X.nextL
     simp only
     rw [if_neg (by decide), if_pos trivial, if_pos hc]
   rw [X.scan_some 0 n (by decide) (by decide) hn] at h
   cases hs : X.scan (0 + (1 + (n.takeWhile X.isLD).length)) ((36 :: n).drop (1 + (n.takeWhile X.isLD).length)) with
   | error e => rw [hs] at h; simp [Except.map] at h
   | ok l =>
     rw [hs] at h
     simp only [Except.map, Bool.and_eq_true, beq_iff_eq] at h
     exact ⟨hc.1, h.2, h20⟩
 · have hn : X.nextL (36 :: n) = none := by
     unfold X.nextL
     simp only
     rw [if_neg (by decide), if_pos trivial, if_neg hc]
   rw [X.scan_none 0 n (by decide) (by decide) hn] at h
   simp at h
theorem Sc.nm {n : List UInt8} (h : nameP n = true) : Sc (36 :: n) [E.nm n] := by
 obtain ⟨h1, h2, h3⟩ := nameP_all h
 refine ⟨.inr ⟨36, n, rfl, by decide⟩, fun v hv at_ => ⟨[at_], rfl, ?_⟩⟩
 have hw : (n ++ v).takeWhile X.isLD = n := by
   rw [X.tw_stop hv, h2]
 have hh : (n ++ v).head?.map X.isL = some true := by
   cases n with
   | nil => simp at h1
   | cons c n => simpa using h1
 have hn : X.nextL (36 :: (n ++ v)) = some (⟨1, n, 0⟩, 1 + n.length) := by
   unfold X.nextL
   simp only
   rw [if_neg (by decide), if_pos trivial, hw, if_pos ⟨hh, h3⟩]
 rw [List.cons_append, X.scan_some at_ (n ++ v) (by decide) (by decide) hn]
 rw [show ((36 :: (n ++ v)).drop (1 + n.length)) = v by rw [Nat.add_comm, List.drop_succ_cons, List.drop_left]]
 rw [show at_ + (1 + n.length) = at_ + (36 :: n).length by rw [List.length_cons]; omega]
 rfl
def rTk : Rs → List X.Tk
 | [] => []
 | r :: rs => (if r.1 = r.2 then [ch r.1] else [ch r.1, sg 45, ch r.2]) ++ rTk rs
theorem Sc.ranges : ∀ (b : Bool) (s : Rs), (∀ r ∈ s, 0 ≤ r.1 ∧ r.1 ≤ 1114111 ∧ 0 ≤ r.2 ∧ r.2 ≤ 1114111) → Sc (rangesT b s) (rTk s)
 | _, [], _ => Sc.nil
 | b, r :: rs, h => by
   have h1 := h r (by simp)
   have ih := Sc.ranges true rs (fun x hx => h x (by simp [hx]))
   rw [rangesT, rTk]
   have hb : Sc (if b = true then [32] else []) [] := by
     cases b
     · exact Sc.nil
     · exact Sc.bl
   have hc := Sc.chr h1.1 h1.2.1
   by_cases he : r.1 = r.2
   · rw [if_pos he, if_pos he]
     have := hb.app (hc.app (Sc.nil.app ih))
     simpa using this
   · rw [if_neg he, if_neg he]
     have hd := (Sc.sg (c := 45) (by decide)).app (Sc.chr h1.2.2.1 h1.2.2.2)
     have := hb.app (hc.app (hd.app ih))
     simpa using this
def At (l : List Tok) : Nat → List X.Tk → Prop
 | _, [] => True
 | i, t :: ts => (tk l i).1 = t ∧ At l (i + 1) ts
theorem At.app {l : List Tok} : ∀ {i : Nat} {xs ys : List X.Tk}, At l i (xs ++ ys) → At l i xs ∧ At l (i + xs.length) ys
 | i, [], ys, h => ⟨trivial, h⟩
 | i, x :: xs, ys, h => by
   obtain ⟨h1, h2⟩ := h
   obtain ⟨h3, h4⟩ := At.app (xs := xs) h2
   exact ⟨⟨h1, h3⟩, by rw [List.length_cons, show i + (xs.length + 1) = i + 1 + xs.length by omega]; exact h4⟩
theorem set_canon {s : Rs} (h : U.S.Canon s) : U.S.set s = s := U.S.canon_eq (U.S.set_canon s) h fun p => by rw [U.S.set_has]; exact h.hs p
inductive W : T → Prop
 | set (a : Int) (s : Rs) (h : s.length ≤ 200) (hc : U.S.Canon s) : W (.mk 1 a s [] [])
 | var (a : Int) (n : List UInt8) (h : nameP n = true) : W (.mk 2 a [] n [])
 | none (a : Int) : W (.mk 3 a [] [] [])
 | two (k a : Int) (t u : T) (hk : k = 4 ∨ k = 5) (h1 : W t) (h2 : W u) : W (.mk k a [] [] [t, u])
 | one (k a : Int) (t : T) (hk : k = 6 ∨ k = 7 ∨ k = 8) (h1 : W t) : W (.mk k a [] [] [t])
inductive Sim : T → T → Prop
 | leaf (k a b : Int) (s : Rs) (n : List UInt8) : Sim (.mk k a s n []) (.mk k b s n [])
 | one (k a b : Int) (s : Rs) (n : List UInt8) (t t' : T) (h : Sim t t') : Sim (.mk k a s n [t]) (.mk k b s n [t'])
 | two (k a b : Int) (s : Rs) (n : List UInt8) (t t' u u' : T) (h : Sim t t') (h2 : Sim u u') : Sim (.mk k a s n [t, u]) (.mk k b s n [t', u'])
mutual
theorem w_of : ∀ (t : T), (∀ p ∈ pre t t, NodeOk p.1) → W t
 | .mk k a s n ks, h => by
   have h0 := h (.mk k a s n ks, .mk k a s n ks) (by rw [pre]; exact List.mem_cons_self)
   have hk := ws_of ks (fun p hp => h p (by rw [pre]; exact List.mem_cons_of_mem _ hp))
   obtain ⟨h1, h2⟩ := h0
   simp only [T.kids, T.kind, T.set, T.name] at h1 h2
   have hn0 : ks.length = 0 → ks = [] := List.eq_nil_of_length_eq_zero
   rcases h2 with ⟨rfl, rfl, h3, h4⟩ | ⟨rfl, rfl, h3⟩ | ⟨h3, h4, rfl, rfl⟩
   · obtain rfl := hn0 (by have h1' : (ks.length : Int) = 0 := h1; omega)
     exact .set a s h3 h4
   · obtain rfl := hn0 (by have h1' : (ks.length : Int) = 0 := h1; omega)
     exact .var a n h3
   · by_cases k3 : k = 3
     · subst k3
       obtain rfl := hn0 (by have h1' : (ks.length : Int) = 0 := h1; omega)
       exact .none a
     · by_cases k45 : k = 4 ∨ k = 5
       · have : ks.length = 2 := by unfold kidsOf at h1; rw [if_pos k45] at h1; omega
         match ks, this, hk with
         | [t, u], _, hk => exact .two k a t u k45 (hk t (by simp)) (hk u (by simp))
       · have : ks.length = 1 := by unfold kidsOf at h1; rw [if_neg k45, if_pos (by omega)] at h1; omega
         match ks, this, hk with
         | [t], _, hk => exact .one k a t (by omega) (hk t (by simp))
theorem ws_of : ∀ (ts : List T), (∀ p ∈ preK ts ts, NodeOk p.1) → ∀ t ∈ ts, W t
 | [], _ => fun t ht => by cases ht
 | t :: ts, h => by
   rw [preK] at h
   have h1 := w_of t (fun p hp => h p (List.mem_append_left _ hp))
   have h2 := ws_of ts (fun p hp => h p (List.mem_append_right _ hp))
   intro u hu
   rcases List.mem_cons.1 hu with rfl | hu
   · exact h1
   · exact h2 u hu
end
theorem repL_stop {l : List Tok} {i : Nat} {t : T} (h : rpt (tk l i) = 0) : ∀ n, repL n l i t = (t, i)
 | 0 => rfl
 | n + 1 => by unfold repL; rw [if_pos h]
theorem catL_stop {Q : Nat → Res} {l : List Tok} {i : Nat} {t : T} (h : beg (tk l i) = false) : ∀ n, catL Q n l i t = .ok (t, i)
 | 0 => rfl
 | n + 1 => by unfold catL; rw [if_neg (by rw [h]; decide)]
theorem altL_stop {Q : Nat → Res} {l : List Tok} {i : Nat} {t : T} (h : isS (tk l i) [124] = false) : ∀ n, altL Q n l i t = .ok (t, i)
 | 0 => rfl
 | n + 1 => by unfold altL; rw [if_neg (by rw [h]; decide)]
theorem repD_err {d : Nat} {l : List Tok} {i : Nat} {e : Nat × Nat} (h : primD d l i = .error e) : repD d l i = .error e := by
 unfold repD repF
 rw [h]
theorem repD_ok {d : Nat} {l : List Tok} {i j : Nat} {t : T} (h : primD d l i = .ok (t, j)) (hr : rpt (tk l j) = 0) : repD d l i = .ok (t, j) := by
 unfold repD repF
 rw [h]
 show Except.ok _ = Except.ok _
 rw [repL_stop hr]
def Got (r : Res) (t : T) (j : Nat) : Prop := (∃ t', r = .ok (t', j) ∧ Sim t t') ∨ ∃ k, r = .error (71, k)
theorem Got.rep {d : Nat} {l : List Tok} {i j : Nat} {t : T} (h : Got (primD d l i) t j) (hr : rpt (tk l j) = 0) : Got (repD d l i) t j := by
 rcases h with ⟨t', e, hs⟩ | ⟨k, e⟩
 · exact .inl ⟨t', repD_ok e hr, hs⟩
 · exact .inr ⟨k, repD_err e⟩
def Like (x y : T) : Prop := x.kind = y.kind ∧ x.name = y.name ∧ x.set = y.set ∧ x.kids.length = y.kids.length
def key (p : T × T) : Int × List UInt8 × Rs × Nat := (p.1.kind, p.1.name, p.1.set, p.1.kids.length)
theorem nL_len (xs : Rs) : (nL xs).length ≤ xs.length := by
 unfold nL
 split
 · exact U.S.set_length xs
 · simp
end E
open E (T)
theorem TR.parts {w : World} {ok : Nat → Prop} {t : T} {d : ND} (h : TR w ok t d.v) : d.k = t.kind ∧ d.n = ⟨t.name.toArray⟩ ∧ d.sl = t.set.length ∧ U.RdR w d.sp t.set ∧ d.kl = t.kids.length := by
 cases t with
 | mk k a s n ks =>
   rw [TR] at h
   obtain ⟨sp, sc, kp, kc, e, h1, h2, h3⟩ := h
   unfold ND.v at e
   simp only [Value.agg.injEq, Array.mk.injEq, List.cons.injEq, Value.int.injEq, Value.slice.injEq, Value.string.injEq, and_true, true_and] at e
   obtain ⟨e1, e2, ⟨e3, e4, e5⟩, e6, e7, e8, e9⟩ := e
   exact ⟨e1, e6, e4, by rw [e3]; exact h1, e8⟩
end Go.Proofs.YteaaijhppmkfeaaGreatDoor
