/- A range over a function: what the statement asks of the iterator, what a call of yield does, with the loop's record in sight. -/
import Derived.Test.YtbkcbclloemajaaRd
namespace Go.Proofs.Ytbkcbclloemajaa
open Go.RowKit Go.Shelf

theorem yield_any {m : Nat} (m' : Nat) {l : Nat} {args : Array Value} {W : World} {R : Ending → World → Prop} (h : YieldAt Fence.wide m Try.prog l args W R) : YieldAt Fence.wide m' Try.prog l args W R := by
  obtain ⟨f, t, c, b, hy, h1, h2⟩ := h
  exact ⟨f, t, c, b, hy, h1, fun x xs _ => h2 x xs (room_wide _)⟩

/-- The loop's record. -/
def recOf (w : World) (tmps : Array Value) (ps : Array Tmp) (assign body : Code) (fn : FuncId) (st : LoopState) : Loop :=
  { state := st, pending := none, fn, tmps, params := ps, assign, body, defers := w.heap.size }
/-- The world in which the iterator is called. -/
def enterW (w : World) (tmps : Array Value) (ps : Array Tmp) (assign body : Code) (fn : FuncId) : World :=
  (w.alloc (.deferred (some []))).alloc (.loop (recOf w tmps ps assign body fn .ready))
theorem enterW_size (w : World) (tmps : Array Value) (ps : Array Tmp) (assign body : Code) (fn : FuncId) : (enterW w tmps ps assign body fn).heap.size = w.heap.size + 2 := by simp [enterW]
theorem enterW_rec (w : World) (tmps : Array Value) (ps : Array Tmp) (assign body : Code) (fn : FuncId) : (enterW w tmps ps assign body fn).heap[w.heap.size + 1]? = some (.loop (recOf w tmps ps assign body fn .ready)) := by
  have h := World.alloc_heap_new (w.alloc (.deferred (some []))) (.loop (recOf w tmps ps assign body fn .ready))
  rw [World.size_alloc] at h
  exact h
theorem enterW_def (w : World) (tmps : Array Value) (ps : Array Tmp) (assign body : Code) (fn : FuncId) : (enterW w tmps ps assign body fn).heap[w.heap.size]? = some (.deferred (some [])) :=
  (Below.heap_alloc _ _ _ (by simp)).trans (World.alloc_heap_new w _)
theorem enterW_below (w : World) (tmps : Array Value) (ps : Array Tmp) (assign body : Code) (fn : FuncId) : Below w.heap.size w (enterW w tmps ps assign body fn) := al2 w _ _

/-- The statement: the iterator is called with yield; it comes back with the record ready. -/
theorem enter_law {n : Nat} {g : Operand} {ps : Array Tmp} {assign body : Code} {Q : Exit → Act → World → Prop} {a : Act} {w : World} {gf : Nat} {lb : Array Value}
    (hg : a.eval g = .func (.func gf) #[] lb) (eg : ∀ args w, (callFunc gf args).run Try.prog w = .ok (.enter gf args) w)
    (h : ∀ fn, CallsIn Fence.wide (n - 1) Try.prog gf (#[.func (.yield (w.heap.size + 1)) #[] #[]] ++ lb) (enterW w a.tmps ps assign body fn) fun e W' =>
      (∃ v, e = .returned v) ∧ W'.heap[w.heap.size + 1]? = some (.loop (recOf w a.tmps ps assign body fn .ready)) ∧
        Q .normal { a with defers := { target := .collected w.heap.size, args := #[] } :: a.defers } (W'.putObj (w.heap.size + 1) (.loop (recOf w a.tmps ps assign body fn .exhausted)))) :
    (Code.rangeFunc g ps assign body).wpIn Fence.wide n Try.prog Q a w := by
  refine wpIn_rangeFunc fun fn _ => ?_
  refine ⟨w.heap.size + 1, [{ target := .collected w.heap.size, args := #[] }], enterW w a.tmps ps assign body fn, { target := .fn (.func gf) lb, args := #[.func (.yield (w.heap.size + 1)) #[] #[]] }, enterW w a.tmps ps assign body fn, gf,
    #[.func (.yield (w.heap.size + 1)) #[] #[]] ++ lb, enterW w a.tmps ps assign body fn, run_enterLoop_outer _ _ _ _ _, ?_, fun _ _ => trivial, ?_, fun hd => (by cases hd), ?_⟩
  · simp only [resolve, hg]
    simp [go_sem]
  · simp [invoke, go_sem, eg]
  · refine (h fn).mono ?_
    rintro e W' ⟨⟨v, rfl⟩, hl, hQ⟩
    exact ⟨none, _, run_endLoop (P := Try.prog) hl (by simp [recOf]), hQ⟩

/-- A call of yield: the assignment, then the body, which goes through to its end. -/
theorem yield_law {l m : Nat} {r : Loop} (hs : r.state = .ready) (hp : r.pending = none) {W : World} (hl : W.heap[l]? = some (.loop r)) {args : Array Value} (hsz : args.size = r.params.size) {R : Ending → World → Prop}
    (h : r.assign.wpIn (Fence.wide.inRound l) m Try.prog (Exit.then (fun a' Wa => Wa.heap[l]? = some (.loop r) ∧
      r.body.wpIn (Fence.wide.inRound l) m Try.prog (Exit.then (fun _ W3 => W3.heap[l]? = some (.loop { r with state := .busy }) ∧ R (.returned (.bool true)) (W3.putObj l (.loop r))) (fun _ _ _ => False)) a' (Wa.putObj l (.loop { r with state := .busy }))) (fun _ _ _ => False))
      { tmps := (r.params.zip args).foldl (fun t (p, v) => t.setIfInBounds p v) r.tmps, defers := [] } W) : YieldAt Fence.wide m Try.prog l args W R := by
  refine ⟨r.fn, _, r.assign, r.body, run_yield (P := Try.prog) hl hsz, roundIn_of_wpIn trivial (wpIn_mono h ?_)⟩
  intro e a1 w1 he
  cases e with
  | normal =>
    obtain ⟨h1, h2⟩ := he
    refine ⟨_, run_beginRound h1 hs, wpIn_mono h2 ?_⟩
    intro e a3 w3 he3
    cases e with
    | normal =>
      obtain ⟨h3, h4⟩ := he3
      have := run_endRound (P := Try.prog) none h3
      have e1 : ({ ({ r with state := .busy } : Loop) with state := if (none : Option Code).isNone then .ready else .done, pending := none } : Loop) = r := by
        cases r
        simp at hs hp ⊢
        exact ⟨hs.symm, hp.symm⟩
      rw [e1] at this
      exact ⟨_, _, this, h4⟩
    | ret => exact he3.elim
    | exit id => exact he3.elim
    | goto t => exact he3.elim
    | panic ch => exact he3.elim
    | outgrown => exact he3.elim
  | ret => exact he.elim
  | exit id => exact he.elim
  | goto t => exact he.elim
  | panic ch => exact he.elim
  | outgrown => exact he.elim

/-- The same, the record under a letter. -/
theorem enter_law2 {n : Nat} {g : Operand} {ps : Array Tmp} {assign body : Code} {Q : Exit → Act → World → Prop} {a : Act} {w : World} {gf : Nat} {lb : Array Value}
    (hg : a.eval g = .func (.func gf) #[] lb) (eg : ∀ args w, (callFunc gf args).run Try.prog w = .ok (.enter gf args) w)
    (h : ∀ (r : Loop) (We : World), Hid (r.state = .ready ∧ r.pending = none ∧ r.params = ps ∧ r.tmps = a.tmps ∧ r.assign = assign ∧ r.body = body) → Hid (We.heap[w.heap.size + 1]? = some (.loop r)) → Hid (We.heap[w.heap.size]? = some (.deferred (some []))) → We.heap.size = w.heap.size + 2 → Below w.heap.size w We →
      CallsIn Fence.wide (n - 1) Try.prog gf (#[.func (.yield (w.heap.size + 1)) #[] #[]] ++ lb) We fun e W' =>
        (∃ v, e = .returned v) ∧ W'.heap[w.heap.size + 1]? = some (.loop r) ∧
          ∀ r' : Loop, Q .normal { a with defers := { target := .collected w.heap.size, args := #[] } :: a.defers } (W'.putObj (w.heap.size + 1) (.loop r'))) :
    (Code.rangeFunc g ps assign body).wpIn Fence.wide n Try.prog Q a w := by
  refine enter_law hg eg fun fn => ?_
  refine (h (recOf w a.tmps ps assign body fn .ready) (enterW w a.tmps ps assign body fn) ⟨rfl, rfl, rfl, rfl, rfl, rfl⟩ (enterW_rec _ _ _ _ _ _) (enterW_def _ _ _ _ _ _) (enterW_size _ _ _ _ _ _) (enterW_below _ _ _ _ _ _)).mono ?_
  rintro e W' ⟨h1, h2, h3⟩
  exact ⟨h1, h2, h3 _⟩
theorem yield_law2 {l m : Nat} {r : Loop} {ps : Array Tmp} {tmps : Array Value} {assign body : Code} (hr : Hid (r.state = .ready ∧ r.pending = none ∧ r.params = ps ∧ r.tmps = tmps ∧ r.assign = assign ∧ r.body = body)) {W : World} (hl : W.heap[l]? = some (.loop r)) {args : Array Value} (hsz : args.size = ps.size) {R : Ending → World → Prop}
    (h : assign.wpIn (Fence.wide.inRound l) m Try.prog (Exit.then (fun a' Wa => Wa.heap[l]? = some (.loop r) ∧
      ∀ rb, body.wpIn (Fence.wide.inRound l) m Try.prog (Exit.then (fun _ W3 => W3.heap[l]? = some (.loop rb) ∧ R (.returned (.bool true)) (W3.putObj l (.loop r))) (fun _ _ _ => False)) a' (Wa.putObj l (.loop rb))) (fun _ _ _ => False))
      { tmps := (ps.zip args).foldl (fun t (p, v) => t.setIfInBounds p v) tmps, defers := [] } W) : YieldAt Fence.wide m Try.prog l args W R := by
  obtain ⟨h1, h2, h3, h4, h5, h6⟩ := hr.out
  refine yield_law h1 h2 hl (by rw [h3]; exact hsz) ?_
  rw [h3, h4, h5, h6]
  refine wpIn_mono h ?_
  intro e a1 w1 he
  cases e with
  | normal => exact ⟨he.1, he.2 _⟩
  | ret => exact he.elim
  | exit id => exact he.elim
  | goto t => exact he.elim
  | panic ch => exact he.elim
  | outgrown => exact he.elim
end Go.Proofs.Ytbkcbclloemajaa
