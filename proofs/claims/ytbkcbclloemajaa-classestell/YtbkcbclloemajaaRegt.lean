/- A region whose last operation is a store, walked in small terms within a round. -/
import Derived.Great.BuildSlice
import Derived.Test.YtbkcbclloemajaaRegs
import Derived.Test.YtbkcbclloemajaaEnds
namespace Go.Proofs.Ytbkcbclloemajaa
open Go.RowKit Go.Shelf
namespace Rst
def G2 (ops : Array Oper) (Q : Exit → Act → World → Prop) (a : Act) (s : Nat) (T : World → Prop) (fuel : Nat) (ks : List Nat) (l : List (Nat × Value)) (w : World) : Prop :=
  anyS ops Q s T fuel (Reg.lst ops.size ks) (Reg.ov a l) w
def waits (ops : Array Oper) (s i : Nat) : Bool :=
  match ops[s]? with
  | some os => os.after.toList.any fun e => Region.binds .any e && Nat.beq e.on i
  | none => false
theorem waits_spec {ops : Array Oper} {s i : Nat} (h : waits ops s i = true) : ∃ os, ops[s]? = some os ∧ ∃ e ∈ os.after, Region.binds .any e = true ∧ e.on = i := by
  unfold waits at h
  cases ho : ops[s]? with
  | none => rw [ho] at h; cases h
  | some os =>
    rw [ho] at h
    obtain ⟨e, he, h2⟩ := List.any_eq_true.1 h
    simp only [Bool.and_eq_true] at h2
    exact ⟨os, rfl, e, by simpa using he, h2.1, Nat.eq_of_beq_eq_true h2.2⟩
section
variable {ops : Array Oper} {Q : Exit → Act → World → Prop} {a : Act} {s : Nat} {T : World → Prop} {fuel : Nat} {ks : List Nat} {l : List (Nat × Value)} {w : World}
theorem startR {id lp n : Nat} (s : Nat) (T : World → Prop) (hm : Try.prog.follows .mixedOrders = true) (hp : plainOps ops = true) (hQ : ¬ LetsOut Q) (h : G2 ops Q a s T ops.size [] [] w.drew) :
    (Code.region id ops true).wpIn (Fence.wide.inRound lp) n Try.prog Q a w :=
  wpIn_region_any hm (any_round hp hQ _ _ _ _ (any_of _ _ _ _ h))
theorem take (hQ : ∀ c (a : Act) (d : Nat) v w, Q (.panic c) (a.put (some d) v) w → Q (.panic c) a w) (i : Nat) (o : Oper) (d : Nat) (v : Value) (hi : ops[i]? = some o)
    (hc : (Region.noSelect ops && (Region.free .any ops (Reg.lst ops.size ks) i && ((Region.ready .any ops (Reg.lst ops.size ks)).contains i && (!(Nat.beq s i) && (waits ops s i && !((Reg.lst ops.size ks).getD s true)))))) = true) (hd : o.dst = some d) (hb : Reg.inB a l = true) (hw : Reg.wantB ops a l o = true)
    (hT : T w) (hy : ∀ w', T w' → (execOp (Reg.ev a l) o).run Try.prog w' = .ok (.value v) w') (h : G2 ops Q a s T fuel (i :: ks) ((d, v) :: l) w) : G2 ops Q a s T (fuel + 1) ks l w := by
  simp only [Bool.and_eq_true, Bool.not_eq_true'] at hc
  obtain ⟨hs, hf, hr, h1, h2, h3⟩ := hc
  refine first (v := v) hi (Region.noSelect_spec hs) (fun c a' w' hh => hQ c a' d v w' (by rw [hd] at hh; exact hh)) (fun e => by rw [e, Nat.beq_refl] at h1; cases h1) (waits_spec h2) fuel _ _ w (Region.free_spec hi hf) (by simpa using hr) (.inl ⟨Reg.wanted_of ops a l o hb hw, fun w' hw' => ?_⟩) hT h3 ?_
  · rw [Reg.ov_eval a l hb]; exact hy w' hw'
  · rw [hd]; exact h
theorem only (i : Nat) (o : Oper) (d : Nat) (hi : ops[i]? = some o) (hr : Region.ready .any ops (Reg.lst ops.size ks) = [i]) (hd : o.dst = some d) (hb : Reg.inB a l = true) (hw : Reg.wantB ops a l o = true)
    (h : ∃ v w', (execOp (Reg.ev a l) o).run Try.prog w = .ok (.value v) w' ∧ T w' ∧ G2 ops Q a s T fuel (i :: ks) ((d, v) :: l) w') : G2 ops Q a s T (fuel + 1) ks l w := by
  obtain ⟨v, w', hrun, hT, hg⟩ := h
  refine ⟨fun h0 => (by rw [hr] at h0; cases h0), ?_⟩
  rw [hr]
  intro j hj
  obtain rfl : j = i := by simpa using hj
  unfold wpOp
  simp only [hi]
  rw [if_pos (Reg.wanted_of ops a l o hb hw)]
  refine .inl ?_
  unfold Oper.wp
  rw [Reg.ov_eval a l hb, hrun]
  simp only [Oper.upon, hd]
  exact ⟨.inr hT, hg⟩
theorem last (o : Oper) (hi : ops[s]? = some o) (hr : Region.ready .any ops (Reg.lst ops.size ks) = [s]) (hd : o.dst = none) (hb : Reg.inB a l = true) (hw : Reg.wantB ops a l o = true)
    (h : ∃ w', (execOp (Reg.ev a l) o).run Try.prog w = .ok .skip w' ∧ G2 ops Q a s T fuel (s :: ks) l w') : G2 ops Q a s T (fuel + 1) ks l w := by
  obtain ⟨w', hrun, hg⟩ := h
  refine ⟨fun h0 => (by rw [hr] at h0; cases h0), ?_⟩
  rw [hr]
  intro j hj
  obtain rfl : j = s := by simpa using hj
  unfold wpOp
  simp only [hi]
  rw [if_pos (Reg.wanted_of ops a l o hb hw)]
  refine .inl ?_
  unfold Oper.wp
  rw [Reg.ov_eval a l hb, hrun]
  simp only [Oper.upon, hd]
  refine ⟨.inl ?_, hg⟩
  rw [Array.getD_eq_getD_getElem?, Array.getElem?_setIfInBounds]
  simp only [if_true]
  split <;> simp
theorem done (hr : Region.ready .any ops (Reg.lst ops.size ks) = []) (h : Q .normal (Reg.ov a l) w) : G2 ops Q a s T fuel ks l w := by
  unfold G2
  cases fuel with
  | zero => exact ⟨hr, h⟩
  | succ f => exact ⟨fun _ => h, by rw [hr]; simp⟩
end
end Rst
/- What operations yield. -/
section
variable {w : World} {ρ : Operand → Value} {o : Oper}
theorem Reg.mv {P : Program} {x : Operand} {v : Value} (hop : o.op = .move x) (hx : ρ x = v) : (execOp ρ o).run P w = .ok (.value v) w := by
  obtain ⟨dst, op, type, pos, after, guard⟩ := o
  simp only at hop
  subst hop
  simp [execOp, hx]
theorem Reg.nc {P : Program} {x : Operand} {a : Addr} (hop : o.op = .nilCheck x) (hx : ρ x = .pointer (some a)) : (execOp ρ o).run P w = .ok (.value (.pointer (some a))) w := by
  obtain ⟨dst, op, type, pos, after, guard⟩ := o
  simp only at hop
  subst hop
  simp [execOp, hx, go_sem]
theorem Reg.bd {P : Program} {t : TypeId} {ps : Array (Nat × Operand)} {vs : Array (Nat × Value)} {cs : Array Value} (hop : o.op = .build t ps) (hx : ps.map (fun (i, x) => (i, ρ x)) = vs) (h : P.built t vs.toList = some cs) : (execOp ρ o).run P w = .ok (.value (.agg cs)) w := by
  obtain ⟨dst, op, type, pos, after, guard⟩ := o
  simp only at hop
  subst hop
  simp only [execOp]
  rw [hx, Sem.run_bind, run_build w t vs cs h]
  rfl
theorem Reg.bs {P : Program} {t e : TypeId} {len : Nat} {ps : Array (Nat × Operand)} {vs : Array (Nat × Value)} {cs : Array Value} (ie : TypeInfo) (z : Value) (hop : o.op = .buildSlice t len ps) (hx : ps.map (fun (i, x) => (i, ρ x)) = vs)
    (hu : P.underlying t = some (.slice e)) (hie : P.info? e = some ie) (hz : ie.zero = some z) (hsmall : ¬ len * ie.size > 2 ^ 24) (hpos : ¬ len * ie.size = 0)
    (h : Instr.fill (fun i => some (i * ie.size, ie.size)) ((Array.range (len * ie.size)).map (z.cells[· % z.cells.size]!)) vs.toList = some cs) :
    (execOp ρ o).run P w = .ok (.value (.slice (some ⟨w.heap.size, 0, none⟩) len len)) (w.alloc (.cells cs e)) := by
  obtain ⟨dst, op, type, pos, after, guard⟩ := o
  simp only at hop
  subst hop
  simp only [execOp]
  rw [hx, Sem.run_bind, run_buildSlice w t e len vs cs ie z hu hie hz hsmall hpos h]
  rfl
end
end Go.Proofs.Ytbkcbclloemajaa
