/- The iterator over a chain's steps. -/
import Derived.Test.YtbeihgjonhgfmaaGreatDoorChf
namespace Go.Proofs.YtbeihgjonhgfmaaGreatDoor
open Go.RowKit Go.Shelf Go.Maps
attribute [local go_sem] Oper.semAt_some
namespace C
/-- What the iterator gives, one behind the other. -/
def trace (L : Row) : Nat → List Tx → Tx → List (Tx × Nat)
  | 0, _, _ => []
  | n + 1, met, one => (one, 0) :: (if (next L one).2.1 then (if room (next L one).1 (met ++ [one]) = 0 then trace L n (met ++ [one]) (next L one).1 else [([], room (next L one).1 (met ++ [one]))]) else if (next L one).2.2 = 0 then [] else [([], (next L one).2.2)])
def steps (L : Row) (x : Tx) : List (Tx × Nat) := if has L x then trace L 7 [] x else [([], 240)]
/-- Another's blocks may have been turned, nothing else. -/
structure Thr (P : Nat → Prop) (A B : World) : Prop where
  os : B.os = A.os
  tape : B.tape = A.tape
  output : B.output = A.output
  size : A.heap.size ≤ B.heap.size
  block : ∀ k, k < A.heap.size → ¬ P k → B.heap[k]? = A.heap[k]?
theorem Thr.of {P : Nat → Prop} {A B : World} (h : Below A.heap.size A B) : Thr P A B := ⟨h.os, h.tape, h.output, h.size, fun k hk _ => h.block k hk⟩
set_option maxRecDepth 100000 in
set_option maxHeartbeats 1000000 in
theorem room_any (w : World) (ao : Option Addr) (cap : Nat) (ss : List Tx) (x : Tx) (hr : RdT w ao ss) (hl : ss.length ≤ 1000) :
    Calls Tryz.prog 53 #[tx x, .slice ao ss.length cap] w fun e w' => e = .returned (.int .i64 (room x ss : Int)) ∧ w' = w := by
  have hc := contains_any w ao cap ss x hr hl
  have HR : Hid (room x ss = if ss.contains x then 111 else if 6 ≤ ss.length then 112 else 0) := hide rfl
  clear hr
  unfold tx at *
  generalize ss.contains x = b at *
  generalize room x ss = rm at *
  cases b with
  | true =>
    go_enter Tryz.func53, Tryz.ntmps53
    go_wp2_with fail
    refine hc.mono ?_
    rintro e w1 ⟨rfl, rfl⟩
    clear hc
    go_wp2
    go_ret
    exact ⟨by rw [HR.out]; rfl, rfl⟩
  | false =>
    by_cases h6 : 6 ≤ ss.length
    · have g1 : decide ((6 : Int) ≤ (ss.length : Int)) = true := decide_eq_true (by omega)
      have HR2 : Hid (rm = 112) := hide (by rw [HR.out, if_neg (by simp), if_pos h6])
      clear HR
      go_enter Tryz.func53, Tryz.ntmps53
      go_wp2_with fail
      refine hc.mono ?_
      rintro e w1 ⟨rfl, rfl⟩
      clear hc
      go_wp2
      go_ret
      exact ⟨by rw [HR2.out]; rfl, rfl⟩
    · have g1 : decide ((6 : Int) ≤ (ss.length : Int)) = false := decide_eq_false (by omega)
      have HR2 : Hid (rm = 0) := hide (by rw [HR.out, if_neg (by simp), if_neg h6])
      clear HR
      go_enter Tryz.func53, Tryz.ntmps53
      go_wp2_with fail
      refine hc.mono ?_
      rintro e w1 ⟨rfl, rfl⟩
      clear hc
      go_wp2
      go_ret
      exact ⟨by rw [HR2.out]; rfl, rfl⟩
set_option maxRecDepth 100000 in
set_option maxHeartbeats 1000000 in
theorem steps_make (a : Nat) (x : Tx) (w : World) : Calls Tryz.prog 31 #[.pointer (some ⟨a, 0, none⟩), tx x] w fun e w' => e = .returned (.func (.func 52) #[] #[.pointer (some ⟨w.heap.size, 0, none⟩), .pointer (some ⟨w.heap.size + 1, 0, none⟩)]) ∧ w' = (w.alloc (.cells #[.pointer (some ⟨a, 0, none⟩)] 24)).alloc (.cells #[tx x] 9) := by
  unfold tx
  go_enter Tryz.func31, Tryz.ntmps31
  go_wp2
  go_ret
  exact ⟨rfl, rfl⟩
theorem AF.same {w w' : World} (h : AF w) (hb : w'.heap[0]? = w.heap[0]?) : AF w' := by
  have : ∀ d, w'.cell? ⟨0, d, none⟩ = w.cell? ⟨0, d, none⟩ := fun d => by simp [World.cell?, hb]
  unfold AF
  rw [this, this, this, this, this, this]
  exact h
theorem AF.pos {w : World} (h : AF w) : 0 < w.heap.size := by
  have := h.1
  unfold World.cell? at this
  cases h0 : w.heap[0]? with
  | none => rw [h0] at this; cases this
  | some o => exact (Array.getElem?_eq_some_iff.1 h0).1
/-- What the iterator reads. -/
structure Bs (a : Nat) (mb : Option Nat) (L : Row) (bf bl : Nat) (x : Tx) (A : World) : Prop where
  fo : FO A a mb L
  af : AF A
  f : A.heap[bf]? = some (.cells #[.pointer (some ⟨a, 0, none⟩)] 24)
  l : A.heap[bl]? = some (.cells #[tx x] 9)
/-- The blocks of that. -/
def Bk (a : Nat) (mb : Option Nat) (bf bl k : Nat) : Prop := k = a ∨ mb = some k ∨ k = 0 ∨ k = bf ∨ k = bl
section
variable {a : Nat} {mb : Option Nat} {L : Row} {bf bl : Nat} {x : Tx} {A B : World}
theorem Bs.lt (h : Bs a mb L bf bl x A) {k : Nat} (hk : Bk a mb bf bl k) : k < A.heap.size := by
  rcases hk with rfl | hk | rfl | rfl | rfl
  · exact h.fo.lt
  · have := h.fo.map; rw [hk] at this; exact this.lt
  · exact AF.pos h.af
  · exact (Array.getElem?_eq_some_iff.1 h.f).1
  · exact (Array.getElem?_eq_some_iff.1 h.l).1
theorem Bs.same (h : Bs a mb L bf bl x A) (hs : ∀ k, k < A.heap.size → Bk a mb bf bl k → B.heap[k]? = A.heap[k]?) : Bs a mb L bf bl x B := by
  have hk : ∀ k, Bk a mb bf bl k → B.heap[k]? = A.heap[k]? := fun k hk => hs k (h.lt hk) hk
  exact ⟨h.fo.same (hk _ (.inl rfl)) (fun b e => hk b (.inr (.inl e))), AF.same h.af (hk 0 (.inr (.inr (.inl rfl)))), (hk _ (.inr (.inr (.inr (.inl rfl))))).trans h.f, (hk _ (.inr (.inr (.inr (.inr rfl))))).trans h.l⟩
theorem Bs.later (h : Bs a mb L bf bl x A) (hb : Below A.heap.size A B) : Bs a mb L bf bl x B := h.same fun k hk _ => hb.block k hk
end
/-- What stands at the loop's head. -/
def Hd (L : Row) (met : List Tx) (one : Tx) (more : Bool) (err : Nat) (rest : List (Tx × Nat)) : Prop :=
  (more = true ∧ err = 0 ∧ met.length ≤ 6 ∧ rest = trace L (7 - met.length) met one) ∨ ((more = false ∨ err ≠ 0) ∧ rest = if err = 0 then [] else [([], err)])
theorem room_six {x : Tx} {ss : List Tx} (h : room x ss = 0) : ss.length ≤ 5 := by
  unfold room at h
  split at h
  · cases h
  · split at h
    · cases h
    · omega
theorem Hd.step {L : Row} {met : List Tx} {one : Tx} {rest : List (Tx × Nat)} (hl : met.length ≤ 6) (h : rest = trace L (7 - met.length) met one) :
    ∃ r2, rest = (one, 0) :: r2 ∧ (((next L one).2.1 = true ∧ Hd L (met ++ [one]) (next L one).1 true (room (next L one).1 (met ++ [one])) r2) ∨ ((next L one).2.1 = false ∧ Hd L (met ++ [one]) (next L one).1 false (next L one).2.2 r2)) := by
  have e : 7 - met.length = (6 - met.length) + 1 := by omega
  rw [e, trace] at h
  refine ⟨_, h, ?_⟩
  cases hm : (next L one).2.1 with
  | true =>
    refine .inl ⟨rfl, ?_⟩
    rw [if_pos rfl]
    by_cases hr : room (next L one).1 (met ++ [one]) = 0
    · rw [if_pos hr]
      have := room_six hr
      rw [List.length_append, List.length_singleton] at this
      refine .inl ⟨rfl, hr, by rw [List.length_append, List.length_singleton]; omega, ?_⟩
      congr 1
      rw [List.length_append, List.length_singleton]; omega
    · rw [if_neg hr]
      exact .inr ⟨.inr hr, by rw [if_neg hr]⟩
  | false =>
    refine .inr ⟨rfl, ?_⟩
    rw [if_neg (by simp)]
    exact .inr ⟨.inl rfl, rfl⟩
theorem next_len {w : World} {a : Nat} {mb : Option Nat} {L : Row} (h : FO w a mb L) (x : Tx) : (next L x).1.length ≤ 40 := by
  unfold next
  cases hg : get L x with
  | none => simp
  | some p =>
    simp only
    split
    · split
      · rename_i u hu
        exact (ups_len x u (List.mem_of_find?_eq_some hu)).1
      · simp
    · split
      · have := h.get_small x; rw [hg] at this; exact this
      · simp
/-- The loop's state. -/
structure SH (a : Nat) (mb : Option Nat) (L : Row) (bf bl : Nat) (x : Tx) (e0 : Nat) (J : Nat → (Nat → Prop) → World → Prop) (P0 : Nat → Prop) (i : Nat) (P : Nat → Prop) (met : List Tx) (v : Value) (W : World) : Prop where
  j : J i P W
  bs : Bs a mb L bf bl x W
  own : OwnN W e0 v met
  mine : ∀ k, v.ownBlock = some k → P k
  p0 : ∀ k, P0 k → P k
  le : e0 ≤ W.heap.size
section
variable {a : Nat} {mb : Option Nat} {L : Row} {bf bl : Nat} {x : Tx} {e0 : Nat} {J : Nat → (Nat → Prop) → World → Prop} {P0 : Nat → Prop} {i : Nat} {P : Nat → Prop} {met : List Tx} {v : Value} {W : World}
theorem SH.later (h : SH a mb L bf bl x e0 J P0 i P met v W) (hst : ∀ i P P' A B, J i P A → Thr (fun k => P k ∧ e0 ≤ k) A B → (∀ k, P' k → P k ∨ (A.heap.size ≤ k ∧ k < B.heap.size)) → J i P' B) {W' : World} (hb : Below W.heap.size W W') : SH a mb L bf bl x e0 J P0 i P met v W' :=
  ⟨hst _ _ _ _ _ h.j (Thr.of hb) (fun _ hk => .inl hk), h.bs.later hb, h.own.later hb, h.mine, h.p0, Nat.le_trans h.le hb.size⟩
/-- Behind a call of yield. -/
theorem SH.yielded (h : SH a mb L bf bl x e0 J P0 i P met v W) (hP0 : ∀ k, Bk a mb bf bl k → P0 k) {W' : World} {i' : Nat} (hj : J i' P W') (hk : ∀ k, k < W.heap.size → P k → W'.heap[k]? = W.heap[k]?) (hz : W.heap.size ≤ W'.heap.size) : SH a mb L bf bl x e0 J P0 i' P met v W' := by
  refine ⟨hj, h.bs.same (fun k h1 h2 => hk k h1 (h.p0 k (hP0 k h2))), ?_, h.mine, h.p0, Nat.le_trans h.le hz⟩
  have hm := h.mine
  obtain ⟨h1, h2 | ⟨g, cap, cur, rfl, h3, h4, h5⟩⟩ := h.own
  · exact ⟨h1, .inl h2⟩
  · exact ⟨h1, .inr ⟨g, cap, cur, rfl, h3, (hk g (Array.getElem?_eq_some_iff.1 h4).1 (hm g rfl)).trans h4, h5⟩⟩
/-- Behind an append. -/
theorem SH.app (h : SH a mb L bf bl x e0 J P0 i P met v W) (hst : ∀ i P P' A B, J i P A → Thr (fun k => P k ∧ e0 ≤ k) A B → (∀ k, P' k → P k ∨ (A.heap.size ≤ k ∧ k < B.heap.size)) → J i P' B) (hb0 : ∀ k, Bk a mb bf bl k → k < e0) {W' : World} {v' : Value} {one : Tx} {tmp : Obj}
    (hown : W'.ownsRow e0 9 1 v' (met.length + 1) (met.map tx ++ [tx one])) (hg : (W.alloc tmp).grownBy W' v.ownBlock) (hat : v'.ownBlock = v.ownBlock ∨ v'.ownBlock = some (W.alloc tmp).heap.size) :
    ∃ P', SH a mb L bf bl x e0 J P0 i P' (met ++ [one]) v' W' := by
  have hs1 : W.heap.size ≤ W'.heap.size := Nat.le_trans (by simp) hg.size
  have hkeep : ∀ k, k < W.heap.size → v.ownBlock ≠ some k → W'.heap[k]? = W.heap[k]? := fun k hk hn => (hg.block k (by simp; omega) (fun e => hn e.symm)).trans (Below.heap_alloc _ _ _ hk)
  refine ⟨fun k => P k ∨ v'.ownBlock = some k, hst _ _ _ _ _ h.j ⟨hg.os, hg.tape, hg.output, hs1, fun k hk hn => hkeep k hk (fun e => hn ⟨h.mine k e, h.own.block k e⟩)⟩ ?_, h.bs.same (fun k h1 h2 => hkeep k h1 (fun e => by have := h.own.block k e; have := hb0 k h2; omega)), ?_, fun k hk => .inr hk, fun k hk => .inl (h.p0 k hk), Nat.le_trans h.le hs1⟩
  · rintro k (hk | hk)
    · exact .inl hk
    · rcases hat with e | e
      · exact .inl (h.mine k (e.symm.trans hk))
      · rw [e] at hk
        injection hk with hk
        refine .inr ⟨by rw [← hk]; simp, ?_⟩
        rcases hown.2 with ⟨_, h0⟩ | ⟨g, cap, cur, rfl, _, hgb, _⟩
        · omega
        · have : g = k := by simpa [Value.ownBlock, hk] using e
          rw [← this]
          exact (Array.getElem?_eq_some_iff.1 hgb).1
  · unfold OwnN
    rw [List.map_append, List.length_append]
    exact hown
end
set_option maxRecDepth 100000 in
set_option maxHeartbeats 4000000 in
theorem steps1_in (n : Nat) (hn : 1 ≤ n) {a : Nat} {mb : Option Nat} {L : Row} {bf bl : Nat} {x : Tx} (hx : x.length ≤ 9223372036854775807) (l : Nat) (J : Nat → (Nat → Prop) → World → Prop) (Stop : Nat → World → Prop) (P0 : Nat → Prop) (W0 : World)
    (hB : Bs a mb L bf bl x W0) (hP0 : ∀ k, Bk a mb bf bl k → P0 k)
    (hst : ∀ i P P' A B, J i P A → Thr (fun k => P k ∧ W0.heap.size ≤ k) A B → (∀ k, P' k → P k ∨ (A.heap.size ≤ k ∧ k < B.heap.size)) → J i P' B)
    (hY : ∀ i (hi : i < (steps L x).length) P W, J i P W → YieldAt Fence.wide (n - 1) Tryz.prog l #[tx (steps L x)[i].1, .int .i64 ((steps L x)[i].2 : Int)] W fun e W' =>
      (e = .returned (.bool true) ∧ J (i + 1) P W' ∧ (∀ k, k < W.heap.size → P k → W'.heap[k]? = W.heap[k]?) ∧ W.heap.size ≤ W'.heap.size) ∨ (e = .returned (.bool false) ∧ Stop i W'))
    (h0 : J 0 P0 W0) :
    CallsIn Fence.wide n Tryz.prog 52 #[.func (.yield l) #[] #[], .pointer (some ⟨bf, 0, none⟩), .pointer (some ⟨bl, 0, none⟩)] W0 fun e W' => (∃ v, e = .returned v) ∧ ((∃ P, J (steps L x).length P W') ∨ ∃ i, i < (steps L x).length ∧ Stop i W') := by
  obtain ⟨i0, hi0, hz0, hz1, hz2⟩ := info_parts9 info9N
  have cf := cell_one hB.f
  have cl := cell_one hB.l
  have hh := has_any hB.fo x hx
  have hb0 : ∀ k, Bk a mb bf bl k → k < W0.heap.size := fun k hk => hB.lt hk
  cases hb : has L x with
  | false =>
    rw [hb] at hh
    have HS : Hid (steps L x = [([], 240)]) := hide (by unfold steps; rw [hb]; rfl)
    have hy0 : ∀ W, J 0 P0 W → YieldAt Fence.wide (n - 1) Tryz.prog l #[.string ⟨#[]⟩, .int .i64 240] W fun e W' => (e = .returned (.bool true) ∧ J (0 + 1) P0 W' ∧ (∀ k, k < W.heap.size → P0 k → W'.heap[k]? = W.heap[k]?) ∧ W.heap.size ≤ W'.heap.size) ∨ (e = .returned (.bool false) ∧ Stop 0 W') := fun W hW => by
      have := hY 0 (by rw [HS.out]; simp) P0 W hW
      simp only [HS.out, List.getElem_cons_zero] at this
      exact this
    have hs0 := fun W hW => hst 0 P0 P0 W0 W h0 (Thr.of hW) (fun _ hk => .inl hk)
    clear hY hb h0 hst hb0
    unfold tx at *
    refine callsIn_of_wp Tryz.func52 rfl trivial ?_ rfl
    simp only [Tryz.ntmps52, List.size_toArray, List.length_cons, List.length_nil, Nat.reduceAdd, Nat.reduceSub, Array.replicate_succ, Array.replicate_zero, List.push_toArray, List.append_toArray, List.nil_append, List.cons_append]
    gi_wp2_with (refine ⟨trivial, ?_⟩; gi_at_call 17; refine (callsIn_wide.2 hh).mono ?_; rintro e w1 ⟨rfl, b1⟩; obtain ⟨fn, tmps, assign, body, hy, hR⟩ := hy0 w1 (hs0 w1 b1))
    refine hR.mono ?_
    rintro e W1 (⟨rfl, hJ1, _, _⟩ | ⟨rfl, hS⟩)
    · clear hy hR hy0
      gi_wp2
      exact bodyPost_ret (v := .tuple #[]) (by simp [results, Tryz.results52, go_sem]) rfl ⟨⟨_, rfl⟩, .inl ⟨P0, by rw [HS.out]; exact hJ1⟩⟩
    · clear hy hR hy0
      gi_wp2
      exact bodyPost_ret (v := .tuple #[]) (by simp [results, Tryz.results52, go_sem]) rfl ⟨⟨_, rfl⟩, .inr ⟨0, by rw [HS.out]; simp, hS⟩⟩
  | true =>
    rw [hb] at hh
    have HS : Hid (steps L x = trace L 7 [] x) := hide (by unfold steps; rw [hb]; rfl)
    have hsh0 : ∀ W, Below W0.heap.size W0 W → SH a mb L bf bl x W0.heap.size J P0 0 P0 [] (.slice none 0 0) W := fun W b => (⟨h0, hB, ownN_nil _ _, fun k e => by simp [Value.ownBlock] at e, fun _ h => h, Nat.le_refl _⟩ : SH a mb L bf bl x W0.heap.size J P0 0 P0 [] (.slice none 0 0) W0).later hst b
    have HP0 := hide hP0
    have HST := hide hst
    have HB0 := hide hb0
    have HB := hide hB
    clear hb h0 hst hb0 hP0 hB
    unfold tx at *
    refine callsIn_of_wp Tryz.func52 rfl trivial ?_ rfl
    simp only [Tryz.ntmps52, List.size_toArray, List.length_cons, List.length_nil, Nat.reduceAdd, Nat.reduceSub, Array.replicate_succ, Array.replicate_zero, List.push_toArray, List.append_toArray, List.nil_append, List.cons_append]
    gi_wp2_with (refine ⟨trivial, ?_⟩; gi_at_call 17; refine (callsIn_wide.2 hh).mono ?_; rintro e w1 ⟨rfl, b1⟩; have h1 := hsh0 w1 b1; have cl1 := cell_one h1.bs.l)
    have H1 := hide h1
    clear h1 hsh0 hh b1 cl1 cf cl
    gi_loopg [4, 5, 6, 7] (trace L 7 [] x).length (fun k u4 u5 u6 u7 wr => ∃ (i : Nat) (P : Nat → Prop) (met : List Tx) (one : Tx) (more : Bool) (err : Nat), SH a mb L bf bl x W0.heap.size J P0 i P met u4 wr ∧ u5 = tx one ∧ u6 = .bool more ∧ u7 = .int .i64 (err : Int) ∧ one.length ≤ 9223372036854775807 ∧ met.length ≤ 7 ∧ i ≤ (steps L x).length ∧ Hid (Hd L met one more err ((steps L x).drop i) ∧ k = ((steps L x).drop i).length))
    case atStart => exact ⟨0, P0, [], x, true, 0, H1.out, rfl, rfl, rfl, hx, by simp, by omega, hide ⟨.inl ⟨rfl, rfl, by simp, HS.out⟩, by rw [HS.out]; rfl⟩⟩
    case round =>
      obtain ⟨i, P, met, one, more, err, hSH, rfl, rfl, rfl, hone, hm7, hil, HH⟩ := hrel
      obtain ⟨hhd, hkk⟩ := HH.out
      have HKK := hide hkk
      clear HH hkk H1
      rcases hhd with ⟨rfl, rfl, hm6, hrest⟩ | ⟨hme, hrest⟩
      · obtain ⟨r2, hr2, hcase⟩ := Hd.step hm6 hrest
        have hi : i < (steps L x).length := by
          have := congrArg List.length hr2
          rw [List.length_drop, List.length_cons] at this
          omega
        have hgi : (steps L x)[i] = (one, 0) ∧ (steps L x).drop (i + 1) = r2 := by
          rw [List.drop_eq_getElem_cons hi] at hr2
          injection hr2 with e1 e2
          exact ⟨e1, e2⟩
        have hy0 := hY i hi P wr hSH.j
        rw [hgi.1] at hy0
        simp only [show ((0 : Nat) : Int) = 0 from rfl] at hy0 ⊢
        have HC := hide hcase
        have HG := hide hgi
        have HSH := hide hSH
        obtain ⟨fn, tmps, assign, body, hy, hR⟩ := hy0
        clear hY hrest hr2 hcase hgi hSH
        unfold tx at *
        gi_wp2
        refine hR.mono ?_
        rintro e W1 (⟨rfl, hJ1, hk1, hz1⟩ | ⟨rfl, hS⟩)
        · have hS1 := HSH.out.yielded HP0.out hJ1 hk1 hz1
          clear hy hR hJ1 hk1 hz1 HSH
          have rO : W1.ownsRow W0.heap.size 9 1 u4 met.length (met.map tx) := hS1.own
          have le0 := hS1.le
          have cfW := cell_one hS1.bs.f
          have HAP := hide (fun (w9 : World) (v' : Value) (tmp : Obj) h1 h2 h3 => hS1.app (one := one) HST.out HB0.out (W' := w9) (v' := v') (tmp := tmp) h1 h2 h3)
          have HFR := hide (fun (w9 : World) (tmp : Obj) (hg : (W1.alloc tmp).grownBy w9 u4.ownBlock) => (hg.block bf (by have := HB0.out bf (.inr (.inr (.inr (.inl rfl)))); simp; omega) (fun e => by have := hS1.own.block bf e.symm; have := HB0.out bf (.inr (.inr (.inr (.inl rfl)))); omega)).trans ((Below.heap_alloc _ _ _ (by have := HB0.out bf (.inr (.inr (.inr (.inl rfl)))); omega)).trans hS1.bs.f))
          clear hS1
          gi_wp2_with (gi_at_builtin; refine wpListIn_append_own_at _ rfl _ _ 30 rfl W0.heap.size 9 i0 (.string ByteArray.empty) 1 16 Tryz.underlying30 hi0 hz0 hz1 hz2 rfl (by decide) _ _ _ rfl (rO.alloc _) ⟨W1.heap.size, 0, none⟩ 1 1 [.string ⟨one.toArray⟩] rfl rfl (one_new _ _ _) (by simp [Value.oneCell']) (by unfold maxLen; omega) (by omega) (by simp; omega) ?_; intro v' w9 hown' hgrow _ hat; have hbf := HFR.out _ _ hgrow; have fin2 := HAP.out _ _ _ hown' hgrow hat; have cf9 := cell_one hbf; clear hbf hown' hgrow hat cfW)
          obtain ⟨P', hS9⟩ := fin2
          have hnx := next_any hS9.bs.fo one hone hS9.bs.af
          have htl := next_len hS9.bs.fo one
          refine ⟨trivial, (callsIn_wide.2 hnx).mono ?_⟩
          rintro e w10 ⟨hans, b10⟩
          have hS10 := hS9.later HST.out b10
          clear hnx hS9 b10 cf9 HFR HAP rO le0
          unfold AnsN at hans
          have HC2 := HC.out
          clear HC
          generalize next L one = nn at hans htl HC2
          obtain ⟨t, mr, er⟩ := nn
          simp only at hans htl HC2
          subst hans
          have hml : (met ++ [one]).length ≤ 7 := by rw [List.length_append, List.length_singleton]; omega
          generalize met ++ [one] = ms at *
          cases mr with
          | true =>
            have HD2 : Hid (Hd L ms t true (room t ms) r2) := hide (by
              rcases HC2 with ⟨_, h⟩ | ⟨h, _⟩
              · exact h
              · cases h)
            clear HC2
            obtain ⟨ao, cap, rfl, hcap, hrd⟩ := hS10.own.rd
            have hrm := room_any w10 ao cap ms t hrd (by omega)
            have H10 := hide hS10
            generalize room t ms = rm at *
            clear hS10 hrd hcap
            unfold tx at *
            gi_wp2_with (refine ⟨trivial, ?_⟩; gi_at_call 53; refine (callsIn_wide.2 hrm).mono ?_; rintro e w11 ⟨rfl, rfl⟩)
            gi_roundg r2.length
            case measure => have := HKK.out; have h2 := congrArg List.length HG.out.2; rw [List.length_drop] at this h2; omega
            case rel => exact ⟨i + 1, P', ms, t, true, rm, H10.out, rfl, rfl, rfl, by omega, hml, hi, hide ⟨by rw [HG.out.2]; exact HD2.out, by rw [HG.out.2]⟩⟩
          | false =>
            have HD2 : Hid (Hd L ms t false er r2) := hide (by
              rcases HC2 with ⟨h, _⟩ | ⟨_, h⟩
              · cases h
              · exact h)
            have H10 := hide hS10
            clear HC2 hS10
            unfold tx at *
            gi_wp2
            gi_roundg r2.length
            case measure => have := HKK.out; have h2 := congrArg List.length HG.out.2; rw [List.length_drop] at this h2; omega
            case rel => exact ⟨i + 1, P', ms, t, false, er, H10.out, rfl, rfl, rfl, by omega, hml, hi, hide ⟨by rw [HG.out.2]; exact HD2.out, by rw [HG.out.2]⟩⟩
        · clear hy hR
          gi_wp2
          exact bodyPost_ret (v := .tuple #[]) (by simp [results, Tryz.results52, go_sem]) rfl ⟨⟨_, rfl⟩, .inr ⟨i, hi, hS⟩⟩
      · have HSH := hide hSH
        have HRS := hide hrest
        by_cases her : err = 0
        · subst her
          have hmf : more = false := hme.elim id (fun h => absurd rfl h)
          subst hmf
          have hlen : i = (steps L x).length := by
            have := congrArg List.length HRS.out
            rw [if_pos rfl, List.length_drop, List.length_nil] at this
            omega
          have HLN := hide hlen
          clear hlen hY hrest hSH hme
          simp only [show ((0 : Nat) : Int) = 0 from rfl]
          unfold tx at *
          gi_wp2
          go_end0
          exact ⟨⟨_, rfl⟩, .inl ⟨P, by rw [← HLN.out]; exact HSH.out.j⟩⟩
        · have hi : i < (steps L x).length := by
            have := congrArg List.length HRS.out
            rw [if_neg her, List.length_drop, List.length_singleton] at this
            omega
          have hgi : (steps L x)[i] = ([], err) ∧ i + 1 = (steps L x).length := by
            have h2 := HRS.out
            rw [if_neg her, List.drop_eq_getElem_cons hi] at h2
            injection h2 with e1 e2
            have := congrArg List.length e2
            rw [List.length_drop, List.length_nil] at this
            exact ⟨e1, by omega⟩
          have hy0 : YieldAt Fence.wide (n - 1) Tryz.prog l #[.string ⟨#[]⟩, .int .i64 (err : Int)] wr fun e W' => (e = .returned (.bool true) ∧ J (i + 1) P W' ∧ (∀ k, k < wr.heap.size → P k → W'.heap[k]? = wr.heap[k]?) ∧ wr.heap.size ≤ W'.heap.size) ∨ (e = .returned (.bool false) ∧ Stop i W') := by
            have := hY i hi P wr hSH.j
            simp only [hgi.1] at this
            exact this
          have g1 : ((err : Int) == 0) = false := by simp; omega
          have HLN := hide hgi.2
          obtain ⟨fn, tmps, assign, body, hy, hR⟩ := hy0
          clear hY hrest hSH hme hgi HRS
          unfold tx at *
          cases more with
          | true =>
            gi_wp2
            refine hR.mono ?_
            rintro e W1 (⟨rfl, hJ1, _, _⟩ | ⟨rfl, hS⟩)
            · clear hy hR
              gi_wp2
              go_end0
              exact ⟨⟨_, rfl⟩, .inl ⟨P, by rw [← HLN.out]; exact hJ1⟩⟩
            · clear hy hR
              gi_wp2
              go_end0
              exact ⟨⟨_, rfl⟩, .inr ⟨i, hi, hS⟩⟩
          | false =>
            gi_wp2
            refine hR.mono ?_
            rintro e W1 (⟨rfl, hJ1, _, _⟩ | ⟨rfl, hS⟩)
            · clear hy hR
              gi_wp2
              go_end0
              exact ⟨⟨_, rfl⟩, .inl ⟨P, by rw [← HLN.out]; exact hJ1⟩⟩
            · clear hy hR
              gi_wp2
              go_end0
              exact ⟨⟨_, rfl⟩, .inr ⟨i, hi, hS⟩⟩
end C
end Go.Proofs.YtbeihgjonhgfmaaGreatDoor
