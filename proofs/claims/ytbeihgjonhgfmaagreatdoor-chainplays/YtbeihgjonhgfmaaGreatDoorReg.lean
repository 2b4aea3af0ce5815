/- A region that draws its order, walked in small terms: what only reads may be taken first; what makes memory waits for what stands ahead of it. -/
import Derived.OrdersHeld
import Derived.Below
import Derived.KernelRfl
import Derived.BigCall
import Derived.Deep.MidRow
namespace Go.Proofs.YtbeihgjonhgfmaaGreatDoor
namespace Reg
open Go.RowKit

/-- The frame, and what the region has written into it, the latest first. -/
def ov (a : Act) : List (Nat × Value) → Act
  | [] => a
  | p :: l => (ov a l).put (some p.1) p.2
def look (a : Act) : List (Nat × Value) → Nat → Value
  | [], t => a.tmps.getD t undef
  | p :: l, t => cond (Nat.beq p.1 t) p.2 (look a l t)
def ev (a : Act) (l : List (Nat × Value)) : Operand → Value
  | .tmp t => look a l t
  | .const v => v
  | .global g => .pointer (some ⟨g, 0, none⟩)
  | .func f => .func (.func f) #[] #[]
def inB (a : Act) : List (Nat × Value) → Bool
  | [] => true
  | p :: l => Nat.blt p.1 a.tmps.size && inB a l

theorem ov_size (a : Act) : ∀ l, (ov a l).tmps.size = a.tmps.size
  | [] => rfl
  | p :: l => by simp only [ov, Act.put, Array.size_setIfInBounds]; exact ov_size a l
theorem ov_defers (a : Act) : ∀ l, (ov a l).defers = a.defers
  | [] => rfl
  | p :: l => by simp only [ov, Act.put]; exact ov_defers a l
theorem ov_look (a : Act) (t : Nat) : ∀ l, inB a l = true → (ov a l).tmps.getD t undef = look a l t
  | [], _ => rfl
  | p :: l, h => by
    simp only [inB, Bool.and_eq_true] at h
    have hp : p.1 < a.tmps.size := by have := h.1; rw [Nat.blt_eq] at this; exact this
    have ih := ov_look a t l h.2
    simp only [ov, Act.put, look]
    by_cases e : p.1 = t
    · subst e
      rw [show Nat.beq p.1 p.1 = true from Nat.beq_refl _, cond_true]
      simp [Array.getD, ov_size, hp]
    · have hne : Nat.beq p.1 t = false := by
        cases hb : Nat.beq p.1 t with
        | true => exact absurd (Nat.eq_of_beq_eq_true hb) e
        | false => rfl
      rw [hne, cond_false, ← ih]
      simp only [Array.getD_eq_getD_getElem?, Array.getElem?_setIfInBounds_ne e]
theorem ov_eval (a : Act) (l : List (Nat × Value)) (h : inB a l = true) : (ov a l).eval = ev a l := by
  funext x
  cases x with
  | tmp t => exact ov_look a t l h
  | const v => rfl
  | global g => rfl
  | func f => rfl

def wantB (ops : Array Oper) (a : Act) (l : List (Nat × Value)) (o : Oper) : Bool :=
  match o.guard with
  | none => true
  | some (j, want) => match (ops[j]?).bind (·.dst) with
    | none => false
    | some d => Nat.blt d a.tmps.size && (match look a l d with
      | .bool b => b == want
      | _ => false)
theorem wanted_of (ops : Array Oper) (a : Act) (l : List (Nat × Value)) (o : Oper) (hb : inB a l = true) (h : wantB ops a l o = true) : Region.wanted o (yielded ops (ov a l).tmps) = true := by
  unfold wantB at h
  unfold Region.wanted
  split at h
  · rename_i hg; rw [hg]
  · rename_i j want hg
    rw [hg]
    simp only
    split at h
    · cases h
    · rename_i d hd
      simp only [Bool.and_eq_true] at h
      have hlt : d < (ov a l).tmps.size := by rw [ov_size]; have := h.1; rw [Nat.blt_eq] at this; exact this
      have hlk := ov_look a d l hb
      unfold yielded
      rw [hd, Option.bind_some]
      have e : (ov a l).tmps[d]? = some (look a l d) := by
        rw [← hlk, Array.getElem?_eq_getElem hlt]
        simp [Array.getD, hlt]
      rw [e]
      have h2 := h.2
      split at h2
      · rename_i b hb'
        rw [hb']
        simpa using h2
      · cases h2

/-- Which operations have come up, the latest first. -/
def lst (n : Nat) : List Nat → Array Bool
  | [] => Array.replicate n false
  | i :: ks => (lst n ks).setIfInBounds i true

/-- What is left of the region, whatever the order: from this world on nothing below block B turns. -/
def G (P : Program) (ops : Array Oper) (Q : Exit → Act → World → Prop) (a : Act) (B : Nat) (fuel : Nat) (ks : List Nat) (l : List (Nat × Value)) (w : World) : Prop :=
  wpAnyH P .any ops Q (fun w' => Below B w w') fuel (lst ops.size ks) (ov a l) w

section
variable {P : Program} {ops : Array Oper} {Q : Exit → Act → World → Prop} {a : Act} {B fuel : Nat} {ks : List Nat} {l : List (Nat × Value)} {w : World}

theorem mono_held {S S' : World → Prop} (h : ∀ w, S' w → S w) : ∀ (fuel : Nat) (listed : Array Bool) (a : Act) (w : World), wpAnyH P .any ops Q S' fuel listed a w → wpAnyH P .any ops Q S fuel listed a w
  | 0, _, _, _, hh => hh
  | fuel + 1, _, _, _, hh => ⟨hh.1, fun i hi => wpOp_mono (fun a' w' h' => ⟨h w' h'.1, mono_held h fuel _ a' w' h'.2⟩) (hh.2 i hi)⟩

theorem start {id : Nat} (hm : P.follows .mixedOrders = true) (h : G P ops Q a B ops.size [] [] w.drew) : (Code.region id ops true).wp P Q a w :=
  wp_region_held hm h

theorem done (hr : Region.ready .any ops (lst ops.size ks) = []) (h : Q .normal (ov a l) w) : G P ops Q a B fuel ks l w := wpAnyH_done hr h fuel

/-- An operation that only reads, taken first. -/
theorem take (hQ : ∀ c (a : Act) (d : Nat) v w, Q (.panic c) (a.put (some d) v) w → Q (.panic c) a w) (i : Nat) (o : Oper) (d : Nat) (v : Value) (hi : ops[i]? = some o) (hs : Region.noSelect ops = true) (hf : Region.free .any ops (lst ops.size ks) i = true)
    (hr : (Region.ready .any ops (lst ops.size ks)).contains i = true) (hd : o.dst = some d) (hb : inB a l = true) (hw : wantB ops a l o = true)
    (hy : ∀ w', Below B w w' → (execOp (ev a l) o).run P w' = .ok (.value v) w') (h : G P ops Q a B fuel (i :: ks) ((d, v) :: l) w) : G P ops Q a B (fuel + 1) ks l w := by
  refine wpAnyH_take (v := v) hi hs hf hr (fun c a' w' hh => hQ c a' d v w' (by rw [hd] at hh; exact hh)) (.inl ⟨wanted_of ops a l o hb hw, fun w' hw' => ?_⟩) (Below.refl _ _) ?_
  · rw [ov_eval a l hb]; exact hy w' hw'
  · rw [hd]; exact h

/-- The only operation that may come up now: it yields a value in some world. -/
theorem only (i : Nat) (o : Oper) (d : Nat) (hi : ops[i]? = some o) (hr : Region.ready .any ops (lst ops.size ks) = [i]) (hd : o.dst = some d) (hb : inB a l = true) (hw : wantB ops a l o = true)
    (h : ∃ v w' B', (execOp (ev a l) o).run P w = .ok (.value v) w' ∧ B ≤ B' ∧ Below B w w' ∧ G P ops Q a B' fuel (i :: ks) ((d, v) :: l) w') : G P ops Q a B (fuel + 1) ks l w := by
  obtain ⟨v, w', B', hrun, hBB, hbl, hg⟩ := h
  refine wpAnyH_all hr (by simp) fun j hj => ?_
  obtain rfl : j = i := by simpa using hj
  unfold wpOp
  simp only [hi]
  rw [if_pos (wanted_of ops a l o hb hw)]
  refine .inl ?_
  unfold Oper.wp
  rw [ov_eval a l hb, hrun]
  simp only [Oper.upon, hd]
  exact ⟨hbl, mono_held (fun x hx => hbl.trans (hx.mono hBB)) _ _ _ _ hg⟩

/-- The only operation that may come up now is a call of a Go function. -/
theorem call (i : Nat) (o : Oper) (d f : Nat) (xs : Array Operand) (ats : Array TypeId) (vs : Array Value) (hi : ops[i]? = some o) (hr : Region.ready .any ops (lst ops.size ks) = [i]) (hd : o.dst = some d) (hb : inB a l = true) (hw : wantB ops a l o = true)
    (hop : o.op = .call { callee := .value (.func f), args := xs, argTypes := ats }) (hvs : #[] ++ xs.map (ev a l) ++ #[] = vs) (hent : (callFunc f vs).run P w = .ok (.enter f vs) w)
    {R : Ending → World → Prop} (hc : Calls P f vs w R) (hR : ∀ e w', R e w' → ∃ v B', e = .returned v ∧ B ≤ B' ∧ Below B w w' ∧ G P ops Q a B' fuel (i :: ks) ((d, v) :: l) w') : G P ops Q a B (fuel + 1) ks l w := by
  refine wpAnyH_all hr (by simp) fun j hj => ?_
  obtain rfl : j = i := by simpa using hj
  unfold wpOp
  simp only [hi]
  rw [if_pos (wanted_of ops a l o hb hw)]
  refine .inl ?_
  unfold Oper.wp
  have he : (execOp (ev a l) o).run P w = .ok (.enter f vs) w := by
    obtain ⟨dst, op, type, pos, after, guard⟩ := o
    simp only at hop
    subst hop
    show (callFunc f (#[] ++ xs.map (ev a l) ++ #[])).run P w = _
    rw [hvs]
    exact hent
  rw [ov_eval a l hb, he]
  simp only [Oper.upon]
  refine hc.mono fun e w' hr' => ?_
  obtain ⟨v, B', rfl, hBB, hbl, hg⟩ := hR e w' hr'
  simp only [hd]
  exact ⟨hbl, mono_held (fun x hx => hbl.trans (hx.mono hBB)) _ _ _ _ hg⟩
end

/- What an operation that only reads yields. -/
theorem eqI {P : Program} {w : World} {ρ : Operand → Value} {o : Oper} {t t' : TypeId} {x y : Operand} {k : IntKind} {m : Int} (hop : o.op = .binOp .eql t x y t') (hx : ρ x = .int k m) (hy : ρ y = .int k m) :
    (execOp ρ o).run P w = .ok (.value (.bool true)) w := by
  obtain ⟨dst, op, type, pos, after, guard⟩ := o
  simp only at hop
  subst hop
  simp [execOp, hx, hy, eqGuard, binOp_eql, Sem.run_pure]
theorem eqS {P : Program} {w : World} {ρ : Operand → Value} {o : Oper} {t t' : TypeId} {x y : Operand} {s : ByteArray} (hop : o.op = .binOp .eql t x y t') (hx : ρ x = .string s) (hy : ρ y = .string s) :
    (execOp ρ o).run P w = .ok (.value (.bool true)) w := by
  obtain ⟨dst, op, type, pos, after, guard⟩ := o
  simp only at hop
  subst hop
  simp [execOp, hx, hy, eqGuard, binOp, Op.stringOp, Sem.run_pure]
theorem cvt {P : Program} {w : World} {ρ : Operand → Value} {o : Oper} {s d : TypeId} {x : Operand} {u v : Value} (hop : o.op = .convert s d x) (hx : ρ x = u) (h : (convert s d u).run P w = .ok v w) :
    (execOp ρ o).run P w = .ok (.value v) w := by
  obtain ⟨dst, op, type, pos, after, guard⟩ := o
  simp only at hop
  subst hop
  simp [execOp, hx, h, Result.andThen]
theorem app {P : Program} {w w' : World} {ρ : Operand → Value} {o : Oper} {t u : TypeId} {x y : Operand} {vx vy v : Value} (hop : o.op = .call { callee := .builtin .append, args := #[x, y], argTypes := #[t, u] }) (hx : ρ x = vx) (hy : ρ y = vy)
    (h : (Builtin.append_ #[t, u] o.type #[vx, vy]).run P w = .ok v w') : (execOp ρ o).run P w = .ok (.value v) w' := by
  obtain ⟨dst, op, type, pos, after, guard⟩ := o
  simp only at hop h
  subst hop
  simp [execOp, resolve, invoke, builtin, hx, hy, h, Result.andThen]
/-- A struct is read. -/
theorem ld {P : Program} {w : World} {ρ : Operand → Value} {o : Oper} {ty : TypeId} {x : Operand} {b off : Nat} {cs : List Value} {d : TypeDesc} (hop : o.op = .load ty x) (hx : ρ x = .pointer (some ⟨b, off, none⟩)) (hc : w.rangeAt b off cs)
    (hu : P.underlying ty = some d) (hd : d.isRow = true) (hi : (P.info? ty).map (·.size) = some cs.length) : (execOp ρ o).run P w = .ok (.value (.agg cs.toArray)) w := by
  obtain ⟨dst, op, type, pos, after, guard⟩ := o
  simp only at hop
  subst hop
  simp only [execOp, hx, Sem.run_bind, run_loadAt_mid w b off ty cs d hc hu hd hi, Result.andThen_ok, Sem.run_pure]
end Reg
theorem range_two {w : World} {b off : Nat} {u v : Value} (h0 : w.cell? ⟨b, off, none⟩ = some u) (h1 : w.cell? ⟨b, off + 1, none⟩ = some v) : w.rangeAt b off [u, v] := by
  intro j x hx
  match j, hx with
  | 0, hx => simp at hx; subst hx; exact h0
  | 1, hx => simp at hx; subst hx; exact h1
  | j + 2, hx => simp at hx
theorem range_block {w : World} {b : Nat} {u v : Value} {t : TypeId} {fz : Nat × Nat} (h : w.heap[b]? = some (.cells #[u, v] t fz)) : w.rangeAt b 0 [u, v] :=
  range_two (by simp [World.cell?, h]) (by simp [World.cell?, h])
end Go.Proofs.YtbeihgjonhgfmaaGreatDoor
