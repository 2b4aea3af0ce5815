/- Joined: Swe Swf Swg Swh Swi. -/
import Derived.Test.YtgngaldoemopjaaGreatDoorFSwd
import Derived.Test.YtgngaldoemopjaaGreatDoorFSbw
namespace Go.Proofs.YtgngaldoemopjaaGreatDoor
open Go.RowKit Go.Shelf
open E
namespace PA
section
variable {l : List Tok} {cs : List Int} (hl : cs.length ≤ l.length ∧ ∀ i, cs.length ≤ i → (tk l i).1.kind = 0) (hk : ∀ i (h : i < cs.length), (tk l i).1.kind = 4 ∧ (tk l i).1.r = cs[i])
theorem isS_not {x : Tok} {c : List UInt8} (h : x.1.kind ≠ 6) : isS x c = false := by unfold isS; rw [decide_eq_false h, Bool.false_and]
theorem rpt_not {x : Tok} (h : x.1.kind ≠ 6) : rpt x = 0 := by unfold rpt; simp [isS_not h]
theorem repL_not (n : Nat) {i : Nat} (t : T) (h : (tk l i).1.kind ≠ 6) : repL n l i t = (t, i) := by
 cases n with
 | zero => rfl
 | succ n => rw [repL, if_pos (rpt_not h)]
include hl in
theorem tk_out {i : Nat} (h : cs.length ≤ i) : (tk l i).1.kind = 0 := hl.2 i h
include hl hk
theorem kind_not (i : Nat) : (tk l i).1.kind ≠ 6 := by
 by_cases h : i < cs.length
 · rw [(hk i h).1]; decide
 · rw [tk_out hl (by omega)]; decide
theorem repD_word (d : Nat) {i : Nat} (h : i < cs.length) : repD d l i = .ok (.mk 1 (tk l i).2 [(cs[i], cs[i])] [] [], i + 1) := by
 have hp : primD d l i = .ok (.mk 1 (tk l i).2 [(cs[i], cs[i])] [] [], i + 1) := by
   rw [primD_eq, if_neg (by rw [(hk i h).1]; decide), if_pos (hk i h).1, (hk i h).2]
 unfold repD repF
 rw [hp]
 show Except.ok (repL l.length l (i + 1) _) = _
 rw [repL_not _ _ (kind_not hl hk (i + 1))]
theorem catL_word (d : Nat) : ∀ (m j : Nat) (t : T), j ≤ cs.length → cs.length - j ≤ m → IsW (cs.take j) t → ∃ t', catL (repD d l) m l j t = .ok (t', cs.length) ∧ IsW cs t'
 | 0, j, t, h1, h2, ht => by
   obtain rfl : j = cs.length := by omega
   rw [List.take_length] at ht
   exact ⟨t, rfl, ht⟩
 | m + 1, j, t, h1, h2, ht => by
   by_cases h : j < cs.length
   · have hb : beg (tk l j) = true := by unfold beg; rw [(hk j h).1]; rfl
     rw [catL, if_pos hb, repD_word hl hk d h]
     refine catL_word d m (j + 1) _ (by omega) (by omega) ?_
     rw [List.take_succ_eq_append_getElem h]
     exact IsW.snoc _ _ _ ht
   · obtain rfl : j = cs.length := by omega
     have hb : beg (tk l cs.length) = false := by
       unfold beg
       have h0 := tk_out hl (Nat.le_refl _)
       simp [isS_not (kind_not hl hk cs.length), h0]
     rw [catL, hb, if_neg (by decide)]
     rw [List.take_length] at ht
     exact ⟨t, rfl, ht⟩
theorem alt_word (h1 : 1 ≤ cs.length) (d : Nat) : ∃ t, alt d l 0 = .ok (t, cs.length) ∧ IsW cs t := by
 obtain ⟨c, r, hc⟩ : ∃ c r, cs = c :: r := by cases cs with
   | nil => simp at h1
   | cons c r => exact ⟨c, r, rfl⟩
 have hw : IsW (cs.take 1) (.mk 1 (tk l 0).2 [(cs[0], cs[0])] [] []) := by
   subst hc
   exact IsW.one _ _
 obtain ⟨t, ht, hi⟩ := catL_word hl hk d l.length 1 _ h1 (by have := hl.1; omega) hw
 refine ⟨t, ?_, hi⟩
 rw [alt_eq]
 unfold altF catD catF
 rw [repD_word hl hk d (show 0 < cs.length by omega)]
 show (match catL (repD d l) l.length l (0 + 1) _ with | .error e => _ | .ok (t, j) => _) = _
 rw [Nat.zero_add, ht]
 show altL _ l.length l cs.length t = _
 cases l.length with
 | zero => rfl
 | succ n => rw [altL, isS_not (kind_not hl hk cs.length), if_neg (by decide)]
end
theorem parse_word {s : List UInt8} {l : List Tok} {cs : List Int} (hs : X.scan 0 s = .ok l) (hl : cs.length ≤ l.length ∧ ∀ i, cs.length ≤ i → (tk l i).1.kind = 0) (hk : ∀ i (h : i < cs.length), (tk l i).1.kind = 4 ∧ (tk l i).1.r = cs[i]) (h1 : 1 ≤ cs.length) : ∃ t, E.parse s = .ok t ∧ IsW cs t := by
 obtain ⟨t, ht, hw⟩ := alt_word hl hk h1 20
 refine ⟨t, ?_, hw⟩
 unfold E.parse
 rw [hs]
 show (match alt 20 l 0 with | .error (c, j) => _ | .ok (t, j) => _) = _
 rw [ht]
 exact if_pos (tk_out hl (Nat.le_refl _))
end PA
end Go.Proofs.YtgngaldoemopjaaGreatDoor
namespace Go.Proofs.YtgngaldoemopjaaGreatDoor
open Go.RowKit Go.Shelf
open E
namespace PA
def wtx (ks : List Nat) : List UInt8 := ks.flatMap fun k => [39, UInt8.ofNat (97 + k)]
theorem dec_low : ∀ k : Fin 26, M.dec [UInt8.ofNat (97 + k.val)] = (97 + k.val, 1) ∧ UInt8.ofNat (97 + k.val) ≠ 92 := by decide
theorem next_word {k : Nat} (h : k < 26) (v : List UInt8) : X.nextL (39 :: UInt8.ofNat (97 + k) :: v) = some (⟨4, [], ((97 + k : Nat) : Int)⟩, 2) := by
 obtain ⟨h1, h2⟩ := dec_low ⟨k, h⟩
 have h3 : M.dec (UInt8.ofNat (97 + k) :: v) = (97 + k, 1) := by
   have hok : M.ok (M.dec [UInt8.ofNat (97 + k)]) = true := by
     rw [show M.dec [UInt8.ofNat (97 + k)] = (97 + k, 1) from h1]
     unfold M.ok
     simp
     omega
   have := X.dec_ext (u := [UInt8.ofNat (97 + k)]) (by simp) hok v
   rw [List.singleton_append] at this
   rw [this]; exact h1
 have hok : M.ok (97 + k, 1) = true := by unfold M.ok; simp; omega
 show X.charL (UInt8.ofNat (97 + k) :: v) = _
 unfold X.charL
 simp only
 rw [if_neg h2, h3, if_pos ⟨hok, by show 97 + k ≠ 10; omega⟩]
theorem scan_word : ∀ (ks : List Nat) (at_ : Nat), (∀ k ∈ ks, k < 26) → ∃ l, X.scan at_ (wtx ks) = .ok l ∧ l.length = ks.length + 1 ∧ (∀ i (h : i < ks.length), (tk l i).1.kind = 4 ∧ (tk l i).1.r = ((97 + ks[i] : Nat) : Int)) ∧ ∀ i, ks.length ≤ i → (tk l i).1.kind = 0
 | [], at_, _ => by
   refine ⟨_, X.scan_nil at_, rfl, fun i h => absurd h (by simp), fun i _ => ?_⟩
   cases i with
   | zero => rfl
   | succ i => rfl
 | k :: ks, at_, h => by
   obtain ⟨l, h1, h2, h3, h4⟩ := scan_word ks (at_ + 2) fun q hq => h q (List.mem_cons_of_mem _ hq)
   have e := X.scan_some at_ (c := 39) (UInt8.ofNat (97 + k) :: wtx ks) (by decide) (by decide) (next_word (h k List.mem_cons_self) (wtx ks))
   refine ⟨(⟨4, [], ((97 + k : Nat) : Int)⟩, at_) :: l, ?_, ?_, fun i hi => ?_, fun i hi => ?_⟩
   · show X.scan at_ (39 :: UInt8.ofNat (97 + k) :: wtx ks) = _
     rw [e]
     show (X.scan (at_ + 2) (wtx ks)).map _ = _
     rw [h1]
     rfl
   · rw [List.length_cons, h2, List.length_cons]
   · cases i with
     | zero => exact ⟨rfl, rfl⟩
     | succ i => exact h3 i (by simpa using hi)
   · cases i with
     | zero => simp at hi
     | succ i => exact h4 i (by simpa using hi)
theorem word_parse {ks : List Nat} (h : ∀ k ∈ ks, k < 26) (h1 : 1 ≤ ks.length) : (∃ t, E.parse (wtx ks) = .ok t ∧ IsW (ks.map fun k => ((97 + k : Nat) : Int)) t) ∧ ∀ l, X.scan 0 (wtx ks) = .ok l → ∀ x ∈ l, x.1.kind ≠ 5 ∧ isS x [91] = false ∧ isS x [46] = false := by
 obtain ⟨l, hs, hl, hk, ho⟩ := scan_word ks 0 h
 refine ⟨parse_word hs ⟨by rw [List.length_map]; omega, fun i hi => ho i (by simpa using hi)⟩ (fun i hi => ?_) (by rw [List.length_map]; exact h1), fun l' hl' x hx => ?_⟩
 · have := hk i (by simpa using hi)
   rw [List.getElem_map]
   exact this
 · rw [hs] at hl'
   obtain rfl := Except.ok.inj hl'
   obtain ⟨i, hi, rfl⟩ := List.mem_iff_getElem.1 hx
   have e : tk l i = l[i] := by unfold tk; rw [List.getD_eq_getElem?_getD, List.getElem?_eq_getElem hi]; rfl
   have hkind : l[i].1.kind = 4 ∨ l[i].1.kind = 0 := by
     rw [← e]
     by_cases h2 : i < ks.length
     · exact .inl (hk i h2).1
     · exact .inr (ho i (by omega))
   have h6 : l[i].1.kind ≠ 6 := by rcases hkind with h | h <;> rw [h] <;> decide
   exact ⟨by rcases hkind with h | h <;> rw [h] <;> decide, isS_not h6, isS_not h6⟩
end PA
end Go.Proofs.YtgngaldoemopjaaGreatDoor
namespace Go.Proofs.YtgngaldoemopjaaGreatDoor
open Go.RowKit Go.Shelf
open E
namespace PA
theorem isW_pre {cs : List Int} {t : T} (h : IsW cs t) (hcs : ∀ c ∈ cs, 0 < c ∧ c ≤ 1114111) : (E.pre t t).length + 1 = 2 * cs.length ∧ ∀ p ∈ E.pre t t, nodeC p.1 = true := by
 have key : ∀ c : Int, 0 < c ∧ c ≤ 1114111 → ∀ b : Int, nodeC (.mk 1 b [(c, c)] [] []) = true := fun c hc b => by
   unfold nodeC
   simp [T.kids, T.kind, T.set, T.name, E.kidsOf]
   omega
 induction h with
 | one c a =>
   have hc := hcs c (by simp)
   rw [pre_self]
   refine ⟨rfl, fun p hp => ?_⟩
   obtain rfl : p = _ := List.mem_singleton.1 hp
   exact key c hc a
 | @snoc cs t c a b hw ih =>
   have hc := hcs c (by simp)
   obtain ⟨h1, h2⟩ := ih fun x hx => hcs x (by simp [hx])
   have e : E.pre (.mk 4 a [] [] [t, .mk 1 b [(c, c)] [] []]) (.mk 4 a [] [] [t, .mk 1 b [(c, c)] [] []]) = (.mk 4 a [] [] [t, .mk 1 b [(c, c)] [] []], .mk 4 a [] [] [t, .mk 1 b [(c, c)] [] []]) :: (E.pre t t ++ [(.mk 1 b [(c, c)] [] [], .mk 1 b [(c, c)] [] [])]) := by
     rw [pre_self]
     show _ :: ([t, T.mk 1 b [(c, c)] [] []].flatMap fun x => E.pre x x) = _
     rw [List.flatMap_cons, List.flatMap_cons, pre_self (T.mk 1 b [(c, c)] [] [])]
     rfl
   rw [e]
   refine ⟨by simp; omega, fun p hp => ?_⟩
   rcases List.mem_cons.1 hp with rfl | hp
   · rfl
   · rcases List.mem_append.1 hp with hp | hp
     · exact h2 p hp
     · obtain rfl : p = _ := List.mem_singleton.1 hp
       exact key c hc b
theorem isW_treeC {cs : List Int} {t : T} (h : IsW cs t) (hcs : ∀ c ∈ cs, 0 < c ∧ c ≤ 1114111) (h60 : cs.length ≤ 60) : treeC t = true := by
 obtain ⟨h1, h2⟩ := isW_pre h hcs
 unfold treeC
 rw [Bool.and_eq_true, decide_eq_true_eq, List.all_eq_true]
 exact ⟨by omega, h2⟩
theorem isW_ct {cs : List Int} {t : T} (h : IsW cs t) : ct t = cs.length := by
 induction h with
 | one c a => rfl
 | @snoc cs t c a b hw ih =>
   have : ct (.mk 4 a [] [] [t, .mk 1 b [(c, c)] [] []]) = ct t + ct (.mk 1 b [(c, c)] [] []) := by
     rw [ct_mk, if_neg (by decide)]
     simp
   rw [this, ih, List.length_append]
   rfl
end PA
end Go.Proofs.YtgngaldoemopjaaGreatDoor
namespace Go.Proofs.YtgngaldoemopjaaGreatDoor
open Go.RowKit Go.Shelf
open E
theorem word_out {cs : List Int} {t : T} {w W : World} {e : Ending} (hw : PA.IsW cs t) (hcs : ∀ c ∈ cs, 0 < c ∧ c ≤ 1114111) (h60 : cs.length ≤ 60) {Q : List Int} (hQ : Q.Nodup) (hm : ∀ c, c ∈ Q ↔ c ∈ cs) (h : AnsDN (PA.auto t) w e W) :
   Below w.heap.size w W ∧ ∃ D ls L, ls.map (·.2.2) = (PA.auto t).pl.map (·.1) ∧ e = .returned (.tuple #[.pointer (some ⟨D, 0, none⟩), .int .i64 0]) ∧ DAt W D (PA.auto t) (U.msOf (pcs ls)) (U.psOf (U.msOf (pcs ls)) (pcs ls)) L ∧ L.length = cs.length + 2 ∧ (U.msOf (pcs ls)).length = Q.length + 1 ∧ SB.SameF (PA.auto t) ls L := by
 obtain ⟨hb, ls, hls, h⟩ := h
 have hg : PA.Good (PA.auto t) := PA.good_auto (PA.treeC_ok (PA.isW_treeC hw hcs h60)).1 (by rw [PA.isW_ct hw]; exact h60)
 have hgr := SB.word_gr hw hcs h60 hls
 have h1 := PA.isW_len hw
 refine ⟨hb, ?_⟩
 rcases h with ⟨rfl, k, _, _, h5⟩ | ⟨D, k, rfl, hk, hj, hk1, hD⟩
 · rw [hgr (k + 1) (by omega), SB.wd_len] at h5
   omega
 · have hkn : k = cs.length + 2 := by
     have h0 : k ≠ 0 := by
       rintro rfl
       rw [SB.gr] at hk
       simp at hk
     rw [hgr k (by omega), SB.wd_len] at hk
     omega
   have hs := SB.same_of hg hls hk hj hk1
   refine ⟨D, ls, _, hls, rfl, hD, by rw [hk, hkn], ?_, hs⟩
   refine SB.word_ms hcs h60 ?_ hQ hm
   rw [hls, PA.isW_auto hw]
end Go.Proofs.YtgngaldoemopjaaGreatDoor
namespace Go.Proofs.YtgngaldoemopjaaGreatDoor
open Go.RowKit Go.Shelf
def a32 (cs : Array Value) : Prop := ∀ u ∈ cs.toList, ∃ z, u = Value.int .i32 z
structure O32 (w : World) (B : Nat) (v : Value) (xs : List Int) : Prop where
 own : Own w B 21 v (cI xs)
 all : ∀ g, v.ownBlock = some g → ∃ cs, w.heap[g]? = some (.cells cs 21 (0, 0)) ∧ a32 cs
structure Tn (g : Nat) (W W' : World) : Prop where
 row : ∃ cs cs', W.heap[g]? = some (.cells cs 21 (0, 0)) ∧ W'.heap[g]? = some (.cells cs' 21 (0, 0)) ∧ cs.size = cs'.size ∧ a32 cs ∧ a32 cs'
 oth : ∀ k, k < W.heap.size → k ≠ g → W'.heap[k]? = W.heap[k]?
theorem O32.nil (w : World) (B : Nat) : O32 w B (.slice none 0 0) [] := ⟨own_nil _ _ _, fun g h => by simp [Value.ownBlock] at h⟩
theorem O32.kept {w w' : World} {B : Nat} {v : Value} {xs : List Int} (h : O32 w B v xs) {row : Option Nat} (hg : w.grownBy w' row) (hne : ∀ g, v.ownBlock = some g → row ≠ some g) : O32 w' B v xs := by
 have h1 : v.ownBlock = none ∨ v.ownBlock ≠ row := by
   cases hv : v.ownBlock with
   | none => exact .inl rfl
   | some g => exact .inr fun e => hne g hv e.symm
 refine ⟨World.ownsRow.kept h.own hg h1, fun g hv => ?_⟩
 obtain ⟨cs, h2, h3⟩ := h.all g hv
 exact ⟨cs, (hg.block g (Array.getElem?_eq_some_iff.1 h2).1 (fun e => hne g hv e.symm)).trans h2, h3⟩
theorem O32.later {w w' : World} {B : Nat} {v : Value} {xs : List Int} (h : O32 w B v xs) (hb : Below w.heap.size w w') : O32 w' B v xs := h.kept (grown_below hb none) (fun g _ => by simp)
theorem a32_app {a b : Array Value} (ha : a32 a) (hb : a32 b) : a32 (a ++ b) := fun u hu => by
 rw [Array.toList_append, List.mem_append] at hu
 exact hu.elim (ha u) (hb u)
theorem a32_zero (n : Nat) : a32 (Builtin.zeroCells #[.int .i32 0] n) := fun u hu => by
 simp [Builtin.zeroCells] at hu
 obtain ⟨k, _, rfl⟩ := hu
 exact ⟨0, by simp [Nat.mod_one]⟩
theorem a32_cI (xs : List Int) : a32 (cI xs).toArray := fun u hu => by
 simp [cI] at hu
 obtain ⟨z, _, rfl⟩ := hu
 exact ⟨z, rfl⟩
theorem app32 (w : World) (B : Nat) (v : Value) (xs : List Int) (x : Int) (p : Nat) (ty : TypeId) (ho : O32 w B v xs) (hB : B ≤ w.heap.size) (hr : w.cell? ⟨p, 0, none⟩ = some (.int .i32 x)) (hlen : xs.length ≤ 1000000) :
   ∃ v' w', (Builtin.append_ #[39, 39] ty #[v, .slice (some ⟨p, 0, none⟩) 1 1]).run Tryz.prog w = .ok v' w' ∧ O32 w' B v' (xs ++ [x]) ∧ Below B w w' ∧ w.grownBy w' v.ownBlock ∧
     ∀ g, v.ownBlock = some g → Tn g w w' := by
 obtain ⟨i0, hi, hz0, hz1, hz2⟩ := info_parts info21
 have hnews : ∀ j u, [Value.int .i32 x][j]? = some u → w.cell? ((⟨p, 0, none⟩ : Addr).add j) = some u := by
   intro j u hu
   cases j with
   | zero =>
     simp at hu
     subst hu
     exact hr
   | succ j => simp at hu
 have hcl := cI_length xs
 obtain ⟨v', w', hrun, hown, hgr, _⟩ := run_append_own (P := Tryz.prog) w B 39 ty 21 i0 (.int .i32 0) 1 4 Tryz.underlying39 hi hz0 hz1 hz2 rfl (by decide) v (cI xs).length (cI xs) ho.own ⟨p, 0, none⟩ 1 1 [.int .i32 x]
   rfl hnews (by simp [Value.oneCell']) (by unfold maxLen; omega) (by omega) hB
 have hz3 : (Value.int .i32 0).cells = #[.int .i32 0] := rfl
 have e1 : cI xs ++ [.int .i32 x] = cI (xs ++ [x]) := by simp [cI]
 have hown2 : Own w' B 21 v' (cI (xs ++ [x])) := by
   unfold Own
   rw [← e1, List.length_append]
   exact hown
 have hx1 : a32 [Value.int .i32 x].toArray := a32_cI [x]
 refine ⟨v', w', hrun, ⟨hown2, ?_⟩, (Below.refl _ _).grown hgr hB ho.own.block, hgr, ?_⟩ <;>
 rcases ho.own.2 with ⟨rfl, h0⟩ | ⟨g, cap, cur, rfl, hbg, hg, hnc, hcm, hcs, htake⟩
 · have hr2 := run_append_nil (P := Tryz.prog) w 39 ty 21 i0 (.int .i32 0) Tryz.underlying39 hi hz0 ⟨p, 0, none⟩ 1 1 [.int .i32 x] (by rw [hz1]; rfl) hnews (by omega) (by omega) (by rw [hz2]; omega)
   rw [hr2] at hrun
   injection hrun with hv hw
   subst hv hw
   intro g hv
   simp only [Value.ownBlock, Option.some.injEq] at hv
   subst hv
   exact ⟨_, heap_alloc_new w.drew _, a32_app hx1 (by rw [hz3]; exact a32_zero _)⟩
 · by_cases hroom : (cI xs).length + 1 ≤ cap
   · have hr2 := run_append_room (P := Tryz.prog) w 39 ty 21 i0 Tryz.underlying39 hi g (cI xs).length cap cur hg ⟨p, 0, none⟩ 1 1 [.int .i32 x] (by rw [hz1]; rfl) hnews (by simp [Value.oneCell']) hroom (by rw [hz1, hcs]; simp; omega)
     rw [hr2] at hrun
     injection hrun with hv hw
     subst hv hw
     intro g' hv
     simp only [Value.ownBlock, Option.some.injEq] at hv
     subst hv
     obtain ⟨cs, h2, h3⟩ := ho.all g rfl
     obtain rfl : cur = cs := by have := h2.symm.trans hg; simpa using this.symm
     refine ⟨_, setRow_heap w g cur _ 21 _ hg, fun u hu => ?_⟩
     simp only [List.mem_append, List.mem_singleton] at hu
     rcases hu with (hu | rfl) | hu
     · exact h3 u (List.mem_of_mem_take hu)
     · exact ⟨x, rfl⟩
     · exact h3 u (List.mem_of_mem_drop hu)
   · have hr2 := run_append_grow (P := Tryz.prog) w 39 ty 21 i0 (.int .i32 0) Tryz.underlying39 hi hz0 ⟨g, 0, none⟩ (cI xs).length cap (cI xs) (by rw [hz1, Nat.mul_one]) (World.ownsRow.cells (g := g) ho.own rfl) ⟨p, 0, none⟩ 1 1 [.int .i32 x] (by rw [hz1]; rfl) hnews (by omega) (by omega) (growslice_fits (by omega) (by rw [hz2]; omega))
     rw [hr2] at hrun
     injection hrun with hv hw
     subst hv hw
     intro g' hv
     simp only [Value.ownBlock, Option.some.injEq] at hv
     subst hv
     exact ⟨_, heap_alloc_new w.drew _, a32_app (a32_app (a32_cI xs) hx1) (by rw [hz3]; exact a32_zero _)⟩
 · intro g hv
   simp [Value.ownBlock] at hv
 · by_cases hroom : (cI xs).length + 1 ≤ cap
   · have hr2 := run_append_room (P := Tryz.prog) w 39 ty 21 i0 Tryz.underlying39 hi g (cI xs).length cap cur hg ⟨p, 0, none⟩ 1 1 [.int .i32 x] (by rw [hz1]; rfl) hnews (by simp [Value.oneCell']) hroom (by rw [hz1, hcs]; simp; omega)
     rw [hr2] at hrun
     injection hrun with hv hw
     subst hv hw
     intro g' hv
     simp only [Value.ownBlock, Option.some.injEq] at hv
     subst hv
     obtain ⟨cs, h2, h3⟩ := ho.all g rfl
     obtain rfl : cur = cs := by have := h2.symm.trans hg; simpa using this.symm
     refine ⟨⟨cur, _, hg, setRow_heap w g cur _ 21 _ hg, ?_, h3, fun u hu => ?_⟩, fun k _ hk => setRow_other w g k _ hk⟩
     · simp only [List.size_toArray, List.length_append, List.length_take, List.length_drop, Array.length_toList, hz1]
       simp
       omega
     · simp only [List.mem_append, List.mem_singleton] at hu
       rcases hu with (hu | rfl) | hu
       · exact h3 u (List.mem_of_mem_take hu)
       · exact ⟨x, rfl⟩
       · exact h3 u (List.mem_of_mem_drop hu)
   · have hr2 := run_append_grow (P := Tryz.prog) w 39 ty 21 i0 (.int .i32 0) Tryz.underlying39 hi hz0 ⟨g, 0, none⟩ (cI xs).length cap (cI xs) (by rw [hz1, Nat.mul_one]) (World.ownsRow.cells (g := g) ho.own rfl) ⟨p, 0, none⟩ 1 1 [.int .i32 x] (by rw [hz1]; rfl) hnews (by omega) (by omega) (growslice_fits (by omega) (by rw [hz2]; omega))
     rw [hr2] at hrun
     injection hrun with hv hw
     subst hv hw
     intro g' hv
     simp only [Value.ownBlock, Option.some.injEq] at hv
     subst hv
     obtain ⟨cs, h2, h3⟩ := ho.all g rfl
     have h4 := (Array.getElem?_eq_some_iff.1 h2).1
     exact ⟨⟨cs, cs, h2, (heap_alloc_old w.drew _ h4).trans h2, rfl, h3, h3⟩, fun k hk _ => heap_alloc_old w.drew _ hk⟩
theorem Tn.cell {g : Nat} {W W' : World} (t : Tn g W W') {b o : Nat} {v : Value} (h : W.cell? ⟨b, o, none⟩ = some v) (hv : ∀ z, v ≠ .int .i32 z) : W'.cell? ⟨b, o, none⟩ = some v := by
 by_cases hb : b = g
 · subst hb
   obtain ⟨cs, cs', h1, _, _, h2, _⟩ := t.row
   simp only [World.cell?, h1] at h
   obtain ⟨z, rfl⟩ := h2 v (by rw [Array.mem_toList_iff]; exact Array.mem_of_getElem? h)
   exact absurd rfl (hv z)
 · exact (World.cell?_of_block (w := W) (a := ⟨b, o, none⟩) (t.oth b (World.block_lt_of_cell? W _ h) hb)).trans h
def vI (W : World) (b o : Nat) : Int := match W.cell? ⟨b, o, none⟩ with
 | some (.int .i32 z) => z
 | _ => 0
theorem Tn.val {g : Nat} {W W' : World} (t : Tn g W W') {b o : Nat} {z : Int} (h : W.cell? ⟨b, o, none⟩ = some (.int .i32 z)) : W'.cell? ⟨b, o, none⟩ = some (.int .i32 (vI W' b o)) := by
 have hz : ∃ z', W'.cell? ⟨b, o, none⟩ = some (.int .i32 z') := by
   by_cases hb : b = g
   · subst hb
     obtain ⟨cs, cs', h1, h2, hs, _, h3⟩ := t.row
     simp only [World.cell?, h1] at h
     have hlt : o < cs'.size := by rw [← hs]; exact (Array.getElem?_eq_some_iff.1 h).1
     have h4 : cs'[o]? = some cs'[o] := Array.getElem?_eq_getElem hlt
     obtain ⟨z', hz'⟩ := h3 cs'[o] (by rw [Array.mem_toList_iff]; exact Array.getElem_mem hlt)
     refine ⟨z', ?_⟩
     simp only [World.cell?, h2]
     rw [h4, hz']
     rfl
   · exact ⟨z, (World.cell?_of_block (w := W) (a := ⟨b, o, none⟩) (t.oth b (World.block_lt_of_cell? W _ h) hb)).trans h⟩
 obtain ⟨z', h5⟩ := hz
 rw [h5]
 unfold vI
 rw [h5]
theorem Tn.rdR {g : Nat} {W W' : World} (t : Tn g W W') {ao : Option Addr} {S : List U.S.R} (h : U.RdR W ao S) : ∃ S' : List U.S.R, S'.length = S.length ∧ U.RdR W' ao S' := by
 cases ao with
 | none =>
   refine ⟨S, rfl, fun i hi => ?_⟩
   obtain ⟨b, off, e, _⟩ := h i hi
   cases e
 | some a =>
   refine ⟨(List.range S.length).map fun i => (vI W' a.block (a.off + i * 2), vI W' a.block (a.off + i * 2 + 1)), by simp, fun i hi => ?_⟩
   rw [List.length_map, List.length_range] at hi
   obtain ⟨b, off, e, c1, c2⟩ := h i hi
   cases e
   refine ⟨b, off, rfl, ?_, ?_⟩
   · simp only [List.getElem_map, List.getElem_range]
     exact t.val c1
   · simp only [List.getElem_map, List.getElem_range]
     exact t.val c2
theorem idx_nodup {ms : List Nat} (h : ms.Nodup) {i : Nat} (hi : i < ms.length) : ms.idxOf ms[i] = i := by
 have h1 : ms.idxOf ms[i] < ms.length := List.idxOf_lt_length_of_mem (List.getElem_mem hi)
 exact (List.getElem_inj h).1 (List.getElem_idxOf h1)
theorem Tn.rdK {g : Nat} {W W' : World} (t : Tn g W W') {acl : Option Addr} {ms : List Nat} {sets : Nat → List U.S.R} (hn : ms.Nodup) (h : U.RdK W acl ms sets) : ∃ sets', U.RdK W' acl ms sets' := by
 have key : ∀ i (_ : i < ms.length), ∃ S' : List U.S.R, ∃ g off ao c, acl = some ⟨g, off, none⟩ ∧ W'.cell? ⟨g, off + i * 2, none⟩ = some (.int .u64 ((ms[i] : Nat) : Int)) ∧ W'.cell? ⟨g, off + i * 2 + 1, none⟩ = some (.slice ao S'.length c) ∧ U.RdR W' ao S' ∧ (ao = none → c = 0) := fun i hi => by
   obtain ⟨g', off, ao, c, e, c1, c2, hr, hc⟩ := h i hi
   obtain ⟨S', e2, hr2⟩ := t.rdR hr
   exact ⟨S', g', off, ao, c, e, t.cell c1 (fun z e => by cases e), by rw [e2]; exact t.cell c2 (fun z e => by cases e), hr2, hc⟩
 refine ⟨fun m => if hm : ms.idxOf m < ms.length then Classical.choose (key _ hm) else [], fun i hi => ?_⟩
 have e := idx_nodup hn hi
 have hm : ms.idxOf ms[i] < ms.length := by rw [e]; exact hi
 have h2 := Classical.choose_spec (key _ hm)
 simp only [dif_pos hm]
 simp only [e] at h2 ⊢
 exact h2
theorem DAt.turn {g : Nat} {W W' : World} {D : Nat} {a : PA.Au} {ms : List Nat} {ps : List (Int × Nat)} {L : List Nat} (h : DAt W D a ms ps L) (hn : ms.Nodup) (t : Tn g W W') : DAt W' D a ms ps L := by
 obtain ⟨sets, so, sc, ⟨acl, ccl, aps, cps, hh, hk, hp⟩, h2, h3⟩ := h
 obtain ⟨sets', hk'⟩ := t.rdK hn hk
 have hD : W'.heap[D]? = W.heap[D]? := by
   by_cases hb : D = g
   · subst hb
     obtain ⟨cs, cs', h1, _, _, h4, _⟩ := t.row
     have h0 := hh.at0
     simp only [World.cell?, h1] at h0
     obtain ⟨z, e⟩ := h4 _ (by rw [Array.mem_toList_iff]; exact Array.mem_of_getElem? h0)
     cases e
   · exact t.oth D (World.block_lt_of_cell? W _ hh.at0) hb
 obtain ⟨cs, ty, e1, e2⟩ := hh
 refine ⟨sets', so, sc, ⟨acl, ccl, aps, cps, ⟨cs, ty, hD.trans e1, e2⟩, hk', fun i hi => ?_⟩, t.cell h2 (fun z e => by cases e), fun j hj => ?_⟩
 · obtain ⟨g', off, e, c1, c2⟩ := hp i hi
   have hne : g' ≠ g := by
     rintro rfl
     obtain ⟨cs, cs', h1, _, _, h4, _⟩ := t.row
     simp only [World.cell?, h1] at c2
     obtain ⟨z, e⟩ := h4 _ (by rw [Array.mem_toList_iff]; exact Array.mem_of_getElem? c2)
     cases e
   have hs := t.oth g' (World.block_lt_of_cell? W _ c1) hne
   exact ⟨g', off, e, (World.cell?_of_block (w := W) (a := ⟨g', off + i * 2, none⟩) hs).trans c1, (World.cell?_of_block (w := W) (a := ⟨g', off + i * 2 + 1, none⟩) hs).trans c2⟩
 · obtain ⟨g', gr, e, c0, c1, c2, h4⟩ := h3 j hj
   exact ⟨g', gr, e, t.cell c0 (fun z e => by cases e), t.cell c1 (fun z e => by cases e), t.cell c2 (fun z e => by cases e), fun c hc => t.cell (h4 c hc) (fun z e => by cases e)⟩
theorem wpl_app32 {w : World} {ops : Array Oper} {rest : List Oper} {o : Oper} {a : Act} {Q : Exit → Act → World → Prop} (hgd : o.guard = none) (s x : Operand)
   (hop : o.op = .call { callee := .builtin .append, args := #[s, x], argTypes := #[39, 39] })
   (B : Nat) (v : Value) (xs : List Int) (y : Int) (p : Nat) (hs : a.eval s = v) (hx : a.eval x = .slice (some ⟨p, 0, none⟩) 1 1)
   (ho : O32 w B v xs) (hB : B ≤ w.heap.size) (hr : w.cell? ⟨p, 0, none⟩ = some (.int .i32 y)) (hlen : xs.length ≤ 1000000)
   (h : ∀ v' w', O32 w' B v' (xs ++ [y]) → Below B w w' → (∀ g, v.ownBlock = some g → Tn g w w') → wpList Tryz.prog ops Q rest (a.put o.dst v') w') : wpList Tryz.prog ops Q (o :: rest) a w := by
 refine wpList_plain hgd fun K hK => ?_
 obtain ⟨v', w', hrun, h2, h3, _, h4⟩ := app32 w B v xs y p o.type ho hB hr hlen
 unfold Oper.wp
 simp [execOp, hop, resolve, invoke, builtin, hs, hx, hrun, Result.andThen]
 exact hK _ _ (h v' w' h2 h3 h4)
theorem cell_new1 (w : World) (x : Value) (t : TypeId) : (w.alloc (.cells #[x] t)).cell? ⟨w.heap.size, 0, none⟩ = some x := by
 simp only [World.cell?, heap_alloc_new]
 rfl
end Go.Proofs.YtgngaldoemopjaaGreatDoor
