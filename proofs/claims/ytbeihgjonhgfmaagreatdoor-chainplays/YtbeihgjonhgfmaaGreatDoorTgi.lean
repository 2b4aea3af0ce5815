/- Laws of a range over a function that may be left by a return; the iterator over subtags. -/
import Derived.RangeFuncNested
import Derived.RangeFuncBound
import Derived.RangeFuncCalls
import Derived.RangeFuncLeaves
import Derived.RangeFuncBox
import Derived.OwnWalkIn
import Derived.TacticsInMore
import Derived.LoopNIn
import Derived.LoopIn
import Derived.Sort.LoopGhostIn
import Derived.Sort.QuietIn
import Derived.Test.YtbeihgjonhgfmaaGreatDoorTgx
namespace Go.Proofs.YtbeihgjonhgfmaaGreatDoor
open Go.RowKit Go.Shelf
attribute [local go_sem] Oper.semAt_some
/-- The loop's record. -/
def recOf (w : World) (tmps : Array Value) (ps : Array Tmp) (assign body : Code) (fn : FuncId) (st : LoopState) : Loop :=
  { state := st, pending := none, fn, tmps, params := ps, assign, body, defers := w.heap.size }
/-- The world in which the iterator is called. -/
def enterW (w : World) (tmps : Array Value) (ps : Array Tmp) (assign body : Code) (fn : FuncId) : World :=
  (w.alloc (.deferred (some []))).alloc (.loop (recOf w tmps ps assign body fn .ready))
theorem enterW_rec (w : World) (tmps : Array Value) (ps : Array Tmp) (assign body : Code) (fn : FuncId) : (enterW w tmps ps assign body fn).heap[w.heap.size + 1]? = some (.loop (recOf w tmps ps assign body fn .ready)) := by
  have h := World.alloc_heap_new (w.alloc (.deferred (some []))) (.loop (recOf w tmps ps assign body fn .ready))
  rw [World.size_alloc] at h
  exact h
theorem enterW_def (w : World) (tmps : Array Value) (ps : Array Tmp) (assign body : Code) (fn : FuncId) : (enterW w tmps ps assign body fn).heap[w.heap.size]? = some (.deferred (some [])) :=
  (Below.heap_alloc _ _ _ (by simp)).trans (World.alloc_heap_new w _)
/-- How a range over a function ends: with all rounds done, or by a return within one. -/
def RanOut (n : Nat) (Q : Exit → Act → World → Prop) (a : Act) (l : Nat) (r : Loop) (W' : World) : Prop :=
  (W'.heap[l]? = some (.loop r) ∧ ∀ r' : Loop, Q .normal a (W'.putObj l (.loop r'))) ∨
    ∃ rd : Loop, rd.state = .done ∧ rd.pending = some .ret ∧ W'.heap[l]? = some (.loop rd) ∧ ∀ r' : Loop, (Code.ret).wpIn Fence.wide n Tryz.prog Q a (W'.putObj l (.loop r'))
/-- The statement: the iterator is called with yield. -/
theorem enter3 {n : Nat} {g : Operand} {ps : Array Tmp} {assign body : Code} {Q : Exit → Act → World → Prop} {a : Act} {w : World} {gf : Nat} {lb : Array Value}
    (hg : a.eval g = .func (.func gf) #[] lb) (eg : ∀ args w, (callFunc gf args).run Tryz.prog w = .ok (.enter gf args) w)
    (h : ∀ (r : Loop) (We : World), Hid (r.state = .ready ∧ r.pending = none ∧ r.params = ps ∧ r.tmps = a.tmps ∧ r.assign = assign ∧ r.body = body) → Hid (We.heap[w.heap.size + 1]? = some (.loop r)) → Hid (We.heap[w.heap.size]? = some (.deferred (some []))) → We.heap.size = w.heap.size + 2 → Below w.heap.size w We →
      CallsIn Fence.wide (n - 1) Tryz.prog gf (#[.func (.yield (w.heap.size + 1)) #[] #[]] ++ lb) We fun e W' =>
        (∃ v, e = .returned v) ∧ RanOut n Q { a with defers := { target := .collected w.heap.size, args := #[] } :: a.defers } (w.heap.size + 1) r W') :
    (Code.rangeFunc g ps assign body).wpIn Fence.wide n Tryz.prog Q a w := by
  refine wpIn_rangeFunc fun fn _ => ?_
  refine ⟨w.heap.size + 1, [{ target := .collected w.heap.size, args := #[] }], enterW w a.tmps ps assign body fn, { target := .fn (.func gf) lb, args := #[.func (.yield (w.heap.size + 1)) #[] #[]] }, enterW w a.tmps ps assign body fn, gf,
    #[.func (.yield (w.heap.size + 1)) #[] #[]] ++ lb, enterW w a.tmps ps assign body fn, run_enterLoop_outer _ _ _ _ _, ?_, fun _ _ => trivial, ?_, fun hd => (by cases hd), ?_⟩
  · simp only [resolve, hg]
    simp [go_sem]
  · simp [invoke, go_sem, eg]
  · refine (h (recOf w a.tmps ps assign body fn .ready) (enterW w a.tmps ps assign body fn) ⟨rfl, rfl, rfl, rfl, rfl, rfl⟩ (enterW_rec _ _ _ _ _ _) (enterW_def _ _ _ _ _ _) (by simp [enterW]) ((al1 w _).trans ((al1 _ _).mono (by simp)))).mono ?_
    rintro e W' ⟨⟨v, rfl⟩, ⟨hl, hQ⟩ | ⟨rd, h1, h2, hl, hQ⟩⟩
    · exact ⟨none, _, run_endLoop (P := Tryz.prog) hl (by simp [recOf]), hQ _⟩
    · have := run_endLoop (P := Tryz.prog) hl (by rw [h1]; simp)
      rw [h2] at this
      exact ⟨some .ret, _, this, hQ _⟩
/-- What is asked at a round's end. -/
def Bod (l : Nat) (r rb : Loop) (R : Ending → World → Prop) : Exit → Act → World → Prop
  | .normal, _, W3 => W3.heap[l]? = some (.loop rb) ∧ R (.returned (.bool true)) (W3.putObj l (.loop r))
  | .ret, _, W3 => W3.heap[l]? = some (.loop rb) ∧ ∀ rd : Loop, rd.state = .done → rd.pending = some .ret → R (.returned (.bool false)) (W3.putObj l (.loop rd))
  | _, _, _ => False
/-- A call of yield: the assignment, then the body, which goes through to its end or returns. -/
theorem yield3 {l m : Nat} {r : Loop} {ps : Array Tmp} {tmps : Array Value} {assign body : Code} (hr : Hid (r.state = .ready ∧ r.pending = none ∧ r.params = ps ∧ r.tmps = tmps ∧ r.assign = assign ∧ r.body = body)) {W : World} (hl : W.heap[l]? = some (.loop r)) {args : Array Value} (hsz : args.size = ps.size) {R : Ending → World → Prop}
    (h : assign.wpIn (Fence.wide.inRound l) m Tryz.prog (Exit.then (fun a' Wa => Wa.heap[l]? = some (.loop r) ∧
      ∀ rb, body.wpIn (Fence.wide.inRound l) m Tryz.prog (Bod l r rb R) a' (Wa.putObj l (.loop rb))) (fun _ _ _ => False))
      { tmps := (ps.zip args).foldl (fun t (p, v) => t.setIfInBounds p v) tmps, defers := [] } W) : YieldAt Fence.wide m Tryz.prog l args W R := by
  obtain ⟨h1, h2, rfl, rfl, rfl, rfl⟩ := hr.out
  refine ⟨r.fn, _, r.assign, r.body, run_yield (P := Tryz.prog) hl hsz, roundIn_of_wpIn trivial (wpIn_mono h ?_)⟩
  intro e a1 w1 he
  cases e with
  | normal =>
    obtain ⟨h3, h4⟩ := he
    refine ⟨_, run_beginRound h3 h1, wpIn_mono (h4 _) ?_⟩
    intro e a3 w3 he3
    cases e with
    | normal =>
      obtain ⟨h5, h6⟩ := he3
      have := run_endRound (P := Tryz.prog) none h5
      have e1 : ({ ({ r with state := .busy } : Loop) with state := if (none : Option Code).isNone then .ready else .done, pending := none } : Loop) = r := by
        cases r
        simp at h1 h2 ⊢
        exact ⟨h1.symm, h2.symm⟩
      rw [e1] at this
      exact ⟨_, _, this, h6⟩
    | ret =>
      obtain ⟨h5, h6⟩ := he3
      exact ⟨_, _, run_endRound (P := Tryz.prog) (some .ret) h5, h6 _ rfl rfl⟩
    | exit id => exact he3.elim
    | goto t => exact he3.elim
    | panic ch => exact he3.elim
    | outgrown => exact he3.elim
  | ret => exact he.elim
  | exit id => exact he.elim
  | goto t => exact he.elim
  | panic ch => exact he.elim
  | outgrown => exact he.elim
theorem yield_anyN {m : Nat} (m' : Nat) {l : Nat} {args : Array Value} {W : World} {R : Ending → World → Prop} (h : YieldAt Fence.wide m Tryz.prog l args W R) : YieldAt Fence.wide m' Tryz.prog l args W R := by
  obtain ⟨f, t, c, b, hy, h1, h2⟩ := h
  exact ⟨f, t, c, b, hy, h1, fun x xs _ => h2 x xs (room_wide _)⟩
set_option maxRecDepth 100000 in
set_option maxHeartbeats 1000000 in
theorem sub_make (s : List UInt8) (w : World) : Calls Tryz.prog 43 #[tx s] w fun x w' => x = .returned (.func (.func 60) #[] #[.pointer (some ⟨w.heap.size, 0, none⟩)]) ∧ w' = w.alloc (.cells #[tx s] 9) := by
  unfold tx
  go_enter Tryz.func43, Tryz.ntmps43
  go_wp2
  go_ret
  exact ⟨rfl, rfl⟩
set_option maxRecDepth 100000 in
set_option maxHeartbeats 2000000 in
theorem sub1_in (n : Nat) (hn : 1 ≤ n) (s : List UInt8) (hlen : s.length ≤ 1000) (l bs : Nat) (J Stop : Nat → World → Prop) (W0 : World) (hbx : W0.heap[bs]? = some (.cells #[tx s] 9))
    (hst : ∀ i A B, J i A → Below A.heap.size A B → J i B)
    (hY : ∀ i (hi : i < (G.cut s).length) W, J i W →
      YieldAt Fence.wide (n - 1) Tryz.prog l #[tx (G.cut s)[i]] W fun e W' => (e = .returned (.bool true) ∧ J (i + 1) W') ∨ (e = .returned (.bool false) ∧ Stop i W'))
    (h0 : J 0 W0) :
    CallsIn Fence.wide n Tryz.prog 60 #[.func (.yield l) #[] #[], .pointer (some ⟨bs, 0, none⟩)] W0 fun e W' => (∃ v, e = .returned v) ∧ (J (G.cut s).length W' ∨ ∃ i, i < (G.cut s).length ∧ Stop i W') := by
  have cb : W0.cell? ⟨bs, 0, none⟩ = some (tx s) := by simp [World.cell?, hbx]
  have h1c : 0 < (G.cut s).length := List.length_pos_iff.2 (G.cut_ne s)
  refine callsIn_of_wp Tryz.func60 rfl trivial ?_ rfl
  simp only [Tryz.ntmps60, List.size_toArray, List.length_cons, List.length_nil, Nat.reduceAdd, Nat.reduceSub, Array.replicate_succ, Array.replicate_zero, List.push_toArray, List.append_toArray, List.nil_append, List.cons_append]
  gi_wp2
  gi_loopg [3] (s.length + 1) (fun k v wr => ∃ (i : Nat) (r : List UInt8), v = tx r ∧ i < (G.cut s).length ∧ Hid (G.cut r = (G.cut s).drop i) ∧ r.length ≤ 1000 ∧ J i wr ∧ Hid (k = r.length + 1))
  case atStart => exact ⟨0, s, rfl, h1c, hide rfl, hlen, h0, hide rfl⟩
  case round =>
    obtain ⟨i, r, rfl, hi, HC, hr, hJ, HK⟩ := hrel
    have hia := iany_any ⟨r.toArray⟩ (by rw [sz_tx]; omega) wr
    rw [bts_tx] at hia
    have HD : Hid ((G.cut s).drop i = (G.cut s)[i] :: (G.cut s).drop (i + 1)) := hide (List.drop_eq_getElem_cons hi)
    clear hbx h0 cb h1c
    rcases iany_cases r with ⟨e1, e2⟩ | ⟨q, hq, e1, e2⟩
    · rw [e1] at hia
      have HR : Hid ((G.cut s)[i] = r ∧ i + 1 = (G.cut s).length) := hide (by
        have := HC.out
        rw [e2, HD.out] at this
        injection this with h1 h2
        have := congrArg List.length h2
        rw [List.length_drop, List.length_nil] at this
        exact ⟨h1.symm, by omega⟩)
      have hy0 := fun W h => hY i hi W h
      rw [HR.out.1] at hy0
      clear hY e1 e2
      gi_wp2_with (refine ⟨trivial, ?_⟩; gi_at_call 61; refine (callsIn_wide.2 hia).mono ?_; rintro e w2 ⟨rfl, hb2⟩; obtain ⟨fn, tmps, assign, body, hy, hR⟩ := hy0 w2 (hst i wr w2 hJ hb2); clear hy0)
      refine hR.mono ?_
      rintro e W1 (⟨rfl, hJ1⟩ | ⟨rfl, hS⟩)
      · clear hy hR
        gi_wp2
        exact bodyPost_ret (v := .tuple #[]) (by simp [results, Tryz.results60, go_sem]) rfl ⟨⟨_, rfl⟩, .inl (by rw [← HR.out.2]; exact hJ1)⟩
      · clear hy hR
        gi_wp2
        exact bodyPost_ret (v := .tuple #[]) (by simp [results, Tryz.results60, go_sem]) rfl ⟨⟨_, rfl⟩, .inr ⟨i, hi, hS⟩⟩
    · rw [e1] at hia
      have HR : Hid ((G.cut s)[i] = r.take q ∧ G.cut (r.drop (q + 1)) = (G.cut s).drop (i + 1)) := hide (by
        have := HC.out
        rw [e2, HD.out] at this
        injection this with h1 h2
        exact ⟨h1.symm, h2⟩)
      have hi2 : i + 1 < (G.cut s).length := by
        have h1 := congrArg List.length HR.out.2
        have h2 := List.length_pos_iff.2 (G.cut_ne (r.drop (q + 1)))
        rw [List.length_drop] at h1
        omega
      have hy0 := fun W h => hY i hi W h
      rw [HR.out.1] at hy0
      have x1 : (⟨r.toArray⟩ : ByteArray).extract 0 q = ⟨(r.take q).toArray⟩ := by rw [ext_tx, List.drop_zero, Nat.sub_zero]
      have x2 : (⟨r.toArray⟩ : ByteArray).extract (q + 1) r.length = ⟨(r.drop (q + 1)).toArray⟩ := by rw [ext_tx, List.take_of_length_le (by rw [List.length_drop]; omega)]
      have hz := sz_tx r
      have hdl : (r.drop (q + 1)).length = r.length - (q + 1) := List.length_drop
      have HRL := hide hdl
      clear hY e1 e2 hdl
      unfold tx at *
      gi_wp2_with (refine ⟨trivial, ?_⟩; gi_at_call 61; refine (callsIn_wide.2 hia).mono ?_; rintro e w2 ⟨rfl, hb2⟩; obtain ⟨fn, tmps, assign, body, hy, hR⟩ := hy0 w2 (hst i wr w2 hJ hb2); clear hy0)
      refine hR.mono ?_
      rintro e W1 (⟨rfl, hJ1⟩ | ⟨rfl, hS⟩)
      · clear hy hR
        gi_wp2
        gi_roundg (gk - (q + 1))
        case measure => have := HK.out; omega
        case rel => exact ⟨i + 1, r.drop (q + 1), by first | rfl | (rw [← x2]; rfl), hi2, hide HR.out.2, by have := HRL.out; omega, hJ1, hide (by have := HK.out; have := HRL.out; omega)⟩
      · clear hy hR
        gi_wp2
        exact bodyPost_ret (v := .tuple #[]) (by simp [results, Tryz.results60, go_sem]) rfl ⟨⟨_, rfl⟩, .inr ⟨i, hi, hS⟩⟩
end Go.Proofs.YtbeihgjonhgfmaaGreatDoor
