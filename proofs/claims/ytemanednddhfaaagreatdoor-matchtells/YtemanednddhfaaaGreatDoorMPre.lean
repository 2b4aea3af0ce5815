/- Joined: Pre. -/
import Derived.Test.YtemanednddhfaaaGreatDoorMRep
import Derived.RangeFuncNested
import Derived.RangeFuncBound
import Derived.RangeFuncCalls
import Derived.RangeFuncLeaves
import Derived.RangeFuncBox
import Derived.OwnWalkIn
import Derived.TacticsInMore
import Derived.LoopNIn
import Derived.LoopIn
import Derived.Sort.LoopGhostIn
namespace Go.Proofs.YtemanednddhfaaaGreatDoor
open Go.RowKit Go.Shelf
open E (T)
namespace E
mutual
def pre : T → T → List (T × T)
 | .mk k a s n ks, b => (.mk k a s n ks, b) :: preK ks b.kids
def preK : List T → List T → List (T × T)
 | [], _ => []
 | _ :: _, [] => []
 | x :: xs, y :: ys => pre x y ++ preK xs ys
end
theorem pre_eq (a b : T) : pre a b = (a, b) :: preK a.kids b.kids := by cases a; rw [pre]; rfl
theorem preK_nil (ys : List T) : preK [] ys = [] := by rw [preK]
theorem preK_nilr (xs : List T) : preK xs [] = [] := by cases xs <;> rw [preK]
theorem preK_cons (x y : T) (xs ys : List T) : preK (x :: xs) (y :: ys) = pre x y ++ preK xs ys := by rw [preK]
def remS : List (List T × List T) → List (T × T)
 | [] => []
 | p :: st => preK p.1 p.2 ++ remS st
end E
def KV (w : World) (ts : List T) (v : Value) : Prop := ∃ p c, v = .slice p ts.length c ∧ ts.length ≤ c ∧ KR w (fun _ => True) ts p 0
theorem KR.shift {w : World} {ok : Nat → Prop} {b off : Nat} : ∀ (ts : List T) (i : Nat), KR w ok ts (some ⟨b, off, none⟩) (i + 1) → KR w ok ts (some ⟨b, off + 5, none⟩) i
 | [], i, _ => by rw [KR]; trivial
 | t :: ts, i, h => by
   rw [KR] at h ⊢
   obtain ⟨⟨b', off', v, e, h1, h2, h3⟩, h4⟩ := h
   cases e
   exact ⟨⟨b, off + 5, v, rfl, h1, h2, by rw [show off + 5 + i * 5 = off + (i + 1) * 5 by omega]; exact h3⟩, KR.shift ts (i + 1) h4⟩
theorem elemSize24 (w : World) : (sizeOf (Tryz.prog.elem 24)).run Tryz.prog w = .ok 5 w := by kernel_rfl
theorem elemSize184 (w : World) : (sizeOf (Tryz.prog.elem 184)).run Tryz.prog w = .ok 2 w := by kernel_rfl
set_option maxRecDepth 100000 in
theorem KV.cons {w : World} {t : T} {ts : List T} {v : Value} (h : KV w (t :: ts) v) : ∃ (b off c : Nat) (d : ND) (u : Value), v = .slice (some ⟨b, off, none⟩) (ts.length + 1) c ∧ TR w (fun _ => True) t d.v ∧ Cells5 w b off d.v ∧ KV w ts u ∧
   (∃ p n c', u = .slice p n c') ∧ ∀ wx : World, (Instr.slice 24 (.slice (some ⟨b, off, none⟩) (ts.length + 1) c) (some (.int .i64 1)) none none).run Tryz.prog wx = .ok u wx := by
 obtain ⟨p, c, rfl, hc, hk⟩ := h
 rw [KR] at hk
 obtain ⟨⟨b, off, v, rfl, _, h2, h3⟩, h4⟩ := hk
 obtain ⟨d, rfl, _, _⟩ := h2.nd
 rw [List.length_cons] at hc
 rw [show off + 0 * 5 = off by omega] at h3
 refine ⟨b, off, c, d, .slice (if c = 1 then some ⟨b, off, none⟩ else some ⟨b, off + 5, none⟩) ts.length (c - 1), rfl, h2, h3, ?_, ⟨_, _, _, rfl⟩, fun wx => ?_⟩
 · refine ⟨_, _, rfl, by omega, ?_⟩
   by_cases h1 : c = 1
   · have : ts = [] := List.eq_nil_of_length_eq_zero (by omega)
     subst this
     rw [KR]; trivial
   · rw [if_neg h1]
     exact KR.shift ts 0 h4
 · have := run_slice_l (P := Tryz.prog) (w := wx) 24 (some ⟨b, off, none⟩) (ts.length + 1) c Tryz.underlying24 .i64 1 (by omega) (by omega)
   rw [this, elemSize24]
   simp only [Result.andThen, sliced]
   congr 1
theorem TR.kv {w : World} {t : T} {d : ND} (h : TR w (fun _ => True) t d.v) : KV w t.kids (.slice d.kp d.kl d.kc) := by
 cases t with
 | mk k a s n ks =>
   rw [TR] at h
   obtain ⟨sp, sc, kp, kc, e, _, h2, h3⟩ := h
   unfold ND.v at e
   simp only [Value.agg.injEq, Array.mk.injEq, List.cons.injEq, Value.slice.injEq, and_true] at e
   obtain ⟨_, _, _, _, rfl, e2, rfl⟩ := e
   exact ⟨_, _, by rw [e2]; rfl, h2, h3⟩
def recOf (w : World) (tmps : Array Value) (ps : Array Tmp) (assign body : Code) (fn : FuncId) (st : LoopState) : Loop :=
 { state := st, pending := none, fn, tmps, params := ps, assign, body, defers := w.heap.size }
def enterW (w : World) (tmps : Array Value) (ps : Array Tmp) (assign body : Code) (fn : FuncId) : World :=
 (w.alloc (.deferred (some []))).alloc (.loop (recOf w tmps ps assign body fn .ready))
theorem enterW_rec (w : World) (tmps : Array Value) (ps : Array Tmp) (assign body : Code) (fn : FuncId) : (enterW w tmps ps assign body fn).heap[w.heap.size + 1]? = some (.loop (recOf w tmps ps assign body fn .ready)) := by
 have h := World.alloc_heap_new (w.alloc (.deferred (some []))) (.loop (recOf w tmps ps assign body fn .ready))
 rw [World.size_alloc] at h
 exact h
theorem enterW_def (w : World) (tmps : Array Value) (ps : Array Tmp) (assign body : Code) (fn : FuncId) : (enterW w tmps ps assign body fn).heap[w.heap.size]? = some (.deferred (some [])) :=
 (Below.heap_alloc _ _ _ (by simp)).trans (World.alloc_heap_new w _)
def RanOut (n : Nat) (Q : Exit → Act → World → Prop) (a : Act) (l : Nat) (r : Loop) (W' : World) : Prop :=
 (W'.heap[l]? = some (.loop r) ∧ ∀ r' : Loop, Q .normal a (W'.putObj l (.loop r'))) ∨
   ∃ rd : Loop, rd.state = .done ∧ rd.pending = some .ret ∧ W'.heap[l]? = some (.loop rd) ∧ ∀ r' : Loop, (Code.ret).wpIn Fence.wide n Tryz.prog Q a (W'.putObj l (.loop r'))
theorem enter3 {n : Nat} {g : Operand} {ps : Array Tmp} {assign body : Code} {Q : Exit → Act → World → Prop} {a : Act} {w : World} {gf : Nat} {lb : Array Value}
   (hg : a.eval g = .func (.func gf) #[] lb) (eg : ∀ args w, (callFunc gf args).run Tryz.prog w = .ok (.enter gf args) w)
   (h : ∀ (r : Loop) (We : World), Hid (r.state = .ready ∧ r.pending = none ∧ r.params = ps ∧ r.tmps = a.tmps ∧ r.assign = assign ∧ r.body = body) → Hid (We.heap[w.heap.size + 1]? = some (.loop r)) → Hid (We.heap[w.heap.size]? = some (.deferred (some []))) → We.heap.size = w.heap.size + 2 → Below w.heap.size w We →
     CallsIn Fence.wide (n - 1) Tryz.prog gf (#[.func (.yield (w.heap.size + 1)) #[] #[]] ++ lb) We fun e W' =>
       (∃ v, e = .returned v) ∧ RanOut n Q { a with defers := { target := .collected w.heap.size, args := #[] } :: a.defers } (w.heap.size + 1) r W') :
   (Code.rangeFunc g ps assign body).wpIn Fence.wide n Tryz.prog Q a w := by
 refine wpIn_rangeFunc fun fn _ => ?_
 refine ⟨w.heap.size + 1, [{ target := .collected w.heap.size, args := #[] }], enterW w a.tmps ps assign body fn, { target := .fn (.func gf) lb, args := #[.func (.yield (w.heap.size + 1)) #[] #[]] }, enterW w a.tmps ps assign body fn, gf,
   #[.func (.yield (w.heap.size + 1)) #[] #[]] ++ lb, enterW w a.tmps ps assign body fn, run_enterLoop_outer _ _ _ _ _, ?_, fun _ _ => trivial, ?_, fun hd => (by cases hd), ?_⟩
 · simp only [resolve, hg]
   simp [go_sem]
 · simp [invoke, go_sem, eg]
 · refine (h (recOf w a.tmps ps assign body fn .ready) (enterW w a.tmps ps assign body fn) ⟨rfl, rfl, rfl, rfl, rfl, rfl⟩ (enterW_rec _ _ _ _ _ _) (enterW_def _ _ _ _ _ _) (by simp [enterW]) ((al1 w _).trans ((al1 _ _).mono (by simp)))).mono ?_
   rintro e W' ⟨⟨v, rfl⟩, ⟨hl, hQ⟩ | ⟨rd, h1, h2, hl, hQ⟩⟩
   · exact ⟨none, _, run_endLoop (P := Tryz.prog) hl (by simp [recOf]), hQ _⟩
   · have := run_endLoop (P := Tryz.prog) hl (by rw [h1]; simp)
     rw [h2] at this
     exact ⟨some .ret, _, this, hQ _⟩
def Bod (l : Nat) (r rb : Loop) (R : Ending → World → Prop) : Exit → Act → World → Prop
 | .normal, _, W3 => W3.heap[l]? = some (.loop rb) ∧ R (.returned (.bool true)) (W3.putObj l (.loop r))
 | .ret, _, W3 => W3.heap[l]? = some (.loop rb) ∧ ∀ rd : Loop, rd.state = .done → rd.pending = some .ret → R (.returned (.bool false)) (W3.putObj l (.loop rd))
 | _, _, _ => False
theorem yield3 {l m : Nat} {r : Loop} {ps : Array Tmp} {tmps : Array Value} {assign body : Code} (hr : Hid (r.state = .ready ∧ r.pending = none ∧ r.params = ps ∧ r.tmps = tmps ∧ r.assign = assign ∧ r.body = body)) {W : World} (hl : W.heap[l]? = some (.loop r)) {args : Array Value} (hsz : args.size = ps.size) {R : Ending → World → Prop}
   (h : assign.wpIn (Fence.wide.inRound l) m Tryz.prog (Exit.then (fun a' Wa => Wa.heap[l]? = some (.loop r) ∧
     ∀ rb, body.wpIn (Fence.wide.inRound l) m Tryz.prog (Bod l r rb R) a' (Wa.putObj l (.loop rb))) (fun _ _ _ => False))
     { tmps := (ps.zip args).foldl (fun t (p, v) => t.setIfInBounds p v) tmps, defers := [] } W) : YieldAt Fence.wide m Tryz.prog l args W R := by
 obtain ⟨h1, h2, rfl, rfl, rfl, rfl⟩ := hr.out
 refine ⟨r.fn, _, r.assign, r.body, run_yield (P := Tryz.prog) hl hsz, roundIn_of_wpIn trivial (wpIn_mono h ?_)⟩
 intro e a1 w1 he
 cases e with
 | normal =>
   obtain ⟨h3, h4⟩ := he
   refine ⟨_, run_beginRound h3 h1, wpIn_mono (h4 _) ?_⟩
   intro e a3 w3 he3
   cases e with
   | normal =>
     obtain ⟨h5, h6⟩ := he3
     have := run_endRound (P := Tryz.prog) none h5
     have e1 : ({ ({ r with state := .busy } : Loop) with state := if (none : Option Code).isNone then .ready else .done, pending := none } : Loop) = r := by
       cases r
       simp at h1 h2 ⊢
       exact ⟨h1.symm, h2.symm⟩
     rw [e1] at this
     exact ⟨_, _, this, h6⟩
   | ret =>
     obtain ⟨h5, h6⟩ := he3
     exact ⟨_, _, run_endRound (P := Tryz.prog) (some .ret) h5, h6 _ rfl rfl⟩
   | exit id => exact he3.elim
   | goto t => exact he3.elim
   | panic ch => exact he3.elim
   | outgrown => exact he3.elim
 | ret => exact he.elim
 | exit id => exact he.elim
 | goto t => exact he.elim
 | panic ch => exact he.elim
 | outgrown => exact he.elim
theorem yield_anyN {m : Nat} (m' : Nat) {l : Nat} {args : Array Value} {W : World} {R : Ending → World → Prop} (h : YieldAt Fence.wide m Tryz.prog l args W R) : YieldAt Fence.wide m' Tryz.prog l args W R := by
 obtain ⟨f, t, c, b, hy, h1, h2⟩ := h
 exact ⟨f, t, c, b, hy, h1, fun x xs _ => h2 x xs (room_wide _)⟩
end Go.Proofs.YtemanednddhfaaaGreatDoor
