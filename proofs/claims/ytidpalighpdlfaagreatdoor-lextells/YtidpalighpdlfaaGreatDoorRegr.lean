/- A region that draws its order, within a round. -/
import Derived.OrdersIn
import Derived.Maps.OwnSet
import Derived.Maps.OwnIn
import Derived.Test.YtidpalighpdlfaaGreatDoorReg
import Derived.Test.YtidpalighpdlfaaGreatDoorSgn
namespace Go.Proofs.YtidpalighpdlfaaGreatDoor
open Go.RowKit Go.Shelf

theorem upon_round {o : Oper} {a : Act} {K K' : Act → World → Prop} {Q : Exit → Act → World → Prop} {l n : Nat} (h : ∀ a w, K a w → K' a w) (r : Result Next) (hr : o.upon Tryz.prog a K Q r) : o.uponIn (Fence.wide.inRound l) n Tryz.prog a K' Q r := by
  cases r with
  | ok x w' =>
    cases x with
    | value v => exact h _ _ hr
    | skip => exact h _ _ hr
    | defer d => exact h _ _ hr
    | enter f args =>
      refine ⟨fun hd => (by cases hd), CallsIn.inRound l (callsIn_wide.2 ?_)⟩
      refine Calls.mono hr ?_
      intro e w'' he
      cases e with
      | returned v => exact h _ _ he
      | panicked c => exact he
      | outgrown => exact he
    | row row args =>
      refine ⟨fun hd => (by cases hd), ?_⟩
      intro c cs _
      obtain ⟨v, w'', h1, h2⟩ := hr c cs
      exact ⟨v, w'', h _ _ h1, stepsIn_wide.2 h2⟩
    | _ => exact (hr : False).elim
  | halt x w' =>
    cases x with
    | panic v => exact hr
    | _ => exact (hr : False).elim

def plainOps (ops : Array Oper) : Bool := ops.toList.all fun o => match o.op with | .defer _ => false | _ => true
theorem plainOps_at {ops : Array Oper} (h : plainOps ops = true) {i : Nat} {o : Oper} (hi : ops[i]? = some o) : ∀ c, o.op ≠ .defer c := by
  intro c hc
  have := List.all_eq_true.1 h o (by rw [← Array.getElem?_toList] at hi; exact List.mem_of_getElem? hi)
  rw [hc] at this
  cases this
theorem any_round {ops : Array Oper} {Q : Exit → Act → World → Prop} {l n : Nat} (hp : plainOps ops = true) (hQ : ¬ LetsOut Q) : ∀ (fuel : Nat) (listed : Array Bool) (a : Act) (w : World), wpAny Tryz.prog .any ops Q fuel listed a w → wpAnyIn (Fence.wide.inRound l) n Tryz.prog .any ops Q fuel listed a w
  | 0, _, _, _, h => h
  | fuel + 1, listed, a, w, h => by
    refine ⟨h.1, fun i hi => ?_⟩
    have h2 := h.2 i hi
    unfold wpOp at h2
    unfold wpOpIn
    cases ho : ops[i]? with
    | none =>
      rw [ho] at h2
      exact any_round hp hQ fuel _ _ _ h2
    | some o =>
      rw [ho] at h2
      simp only at h2 ⊢
      by_cases hw : Region.wanted o (yielded ops a.tmps) = true
      · rw [if_pos hw] at h2 ⊢
        rcases h2 with h2 | h2
        · refine ⟨fun _ _ => trivial, ?_⟩
          rw [Oper.semAt_eq _ _ _ (plainOps_at hp ho)]
          exact upon_round (fun a w h => any_round hp hQ fuel _ a w h) _ h2
        · exact absurd h2.2 hQ
      · rw [if_neg hw] at h2 ⊢
        exact ⟨fun _ _ => trivial, any_round hp hQ fuel _ _ _ h2⟩
/-- The walk of a region in small terms, within a round. -/
theorem Reg.startR {id : Nat} {ops : Array Oper} {Q : Exit → Act → World → Prop} {a : Act} {B l n : Nat} {w : World} (hm : Tryz.prog.follows .mixedOrders = true) (hp : plainOps ops = true) (hQ : ¬ LetsOut Q) (h : Reg.G Tryz.prog ops Q a B ops.size [] [] w.drew) :
    (Code.region id ops true).wpIn (Fence.wide.inRound l) n Tryz.prog Q a w :=
  wpIn_region_any hm (any_round hp hQ _ _ _ _ (wpAny_of_held _ _ _ _ h))
/-- The only operation that may come up now leaves nothing in the frame. -/
theorem Reg.onlyN {P : Program} {ops : Array Oper} {Q : Exit → Act → World → Prop} {a : Act} {B fuel : Nat} {ks : List Nat} {l : List (Nat × Value)} {w : World} (i : Nat) (o : Oper) (hi : ops[i]? = some o) (hr : Region.ready .any ops (Reg.lst ops.size ks) = [i]) (hd : o.dst = none) (hb : Reg.inB a l = true) (hw : Reg.wantB ops a l o = true)
    (h : ∃ w' B', (execOp (Reg.ev a l) o).run P w = .ok .skip w' ∧ B ≤ B' ∧ Below B w w' ∧ Reg.G P ops Q a B' fuel (i :: ks) l w') : Reg.G P ops Q a B (fuel + 1) ks l w := by
  obtain ⟨w', B', hrun, hBB, hbl, hg⟩ := h
  refine wpAnyH_all hr (by simp) fun j hj => ?_
  obtain rfl : j = i := by simpa using hj
  unfold wpOp
  simp only [hi]
  rw [if_pos (Reg.wanted_of ops a l o hb hw)]
  refine .inl ?_
  unfold Oper.wp
  rw [Reg.ov_eval a l hb, hrun]
  simp only [Oper.upon, hd]
  exact ⟨hbl, Reg.mono_held (fun x hx => hbl.trans (hx.mono hBB)) _ _ _ _ hg⟩

/-- One operation, carried out now; what is left behind it. -/
def Reg.Br (P : Program) (ops : Array Oper) (Q : Exit → Act → World → Prop) (a : Act) (B fuel : Nat) (ks : List Nat) (l : List (Nat × Value)) (w : World) (i : Nat) : Prop :=
  wpOp P ops Q i (fun a' w' => Below B w w' ∧ wpAnyH P .any ops Q (fun w' => Below B w w') fuel ((Reg.lst ops.size ks).setIfInBounds i true) a' w') (Reg.ov a l) w
section
variable {P : Program} {ops : Array Oper} {Q : Exit → Act → World → Prop} {a : Act} {B fuel : Nat} {ks : List Nat} {l : List (Nat × Value)} {w : World}
theorem Reg.brV (i : Nat) (o : Oper) (d : Nat) (hi : ops[i]? = some o) (hd : o.dst = some d) (hb : Reg.inB a l = true) (hw : Reg.wantB ops a l o = true)
    (h : ∃ v w' B', (execOp (Reg.ev a l) o).run P w = .ok (.value v) w' ∧ B ≤ B' ∧ Below B w w' ∧ Reg.G P ops Q a B' fuel (i :: ks) ((d, v) :: l) w') : Reg.Br P ops Q a B fuel ks l w i := by
  obtain ⟨v, w', B', hrun, hBB, hbl, hg⟩ := h
  unfold Reg.Br wpOp
  simp only [hi]
  rw [if_pos (Reg.wanted_of ops a l o hb hw)]
  refine .inl ?_
  unfold Oper.wp
  rw [Reg.ov_eval a l hb, hrun]
  simp only [Oper.upon, hd]
  exact ⟨hbl, Reg.mono_held (fun x hx => hbl.trans (hx.mono hBB)) _ _ _ _ hg⟩
theorem Reg.brN (i : Nat) (o : Oper) (hi : ops[i]? = some o) (hd : o.dst = none) (hb : Reg.inB a l = true) (hw : Reg.wantB ops a l o = true)
    (h : ∃ w' B', (execOp (Reg.ev a l) o).run P w = .ok .skip w' ∧ B ≤ B' ∧ Below B w w' ∧ Reg.G P ops Q a B' fuel (i :: ks) l w') : Reg.Br P ops Q a B fuel ks l w i := by
  obtain ⟨w', B', hrun, hBB, hbl, hg⟩ := h
  unfold Reg.Br wpOp
  simp only [hi]
  rw [if_pos (Reg.wanted_of ops a l o hb hw)]
  refine .inl ?_
  unfold Oper.wp
  rw [Reg.ov_eval a l hb, hrun]
  simp only [Oper.upon, hd]
  exact ⟨hbl, Reg.mono_held (fun x hx => hbl.trans (hx.mono hBB)) _ _ _ _ hg⟩
theorem Reg.one (i : Nat) (hr : Region.ready .any ops (Reg.lst ops.size ks) = [i]) (h : Reg.Br P ops Q a B fuel ks l w i) : Reg.G P ops Q a B (fuel + 1) ks l w :=
  wpAnyH_all hr (by simp) fun j hj => by
    obtain rfl : j = i := by simpa using hj
    exact h
theorem Reg.two (i k : Nat) (hr : Region.ready .any ops (Reg.lst ops.size ks) = [i, k]) (h : Reg.Br P ops Q a B fuel ks l w i) (h2 : Reg.Br P ops Q a B fuel ks l w k) : Reg.G P ops Q a B (fuel + 1) ks l w :=
  wpAnyH_all hr (by simp) fun j hj => by
    rcases (by simpa using hj : j = i ∨ j = k) with rfl | rfl
    · exact h
    · exact h2
end
/-- One cell is loaded. -/
theorem Reg.ld1 {P : Program} {w : World} {ρ : Operand → Value} {o : Oper} {ty : TypeId} {x : Operand} {a : Addr} {v : Value} (hop : o.op = .load ty x) (hx : ρ x = .pointer (some a)) (hc : w.cell? a = some v) (hagg : (isAgg ty).run P w = .ok false w) : (execOp ρ o).run P w = .ok (.value v) w := by
  obtain ⟨dst, op, type, pos, after, guard⟩ := o
  simp only at hop
  subst hop
  simp [execOp, hx, Instr.loadAt, Instr.sureAddr, loadVar, Sem.run_bind, hagg, hc, Result.andThen]
theorem Reg.xor64 {P : Program} {w : World} {ρ : Operand → Value} {o : Oper} {t t' : TypeId} {x y : Operand} {a b c : Int} (hop : o.op = .binOp .xor t x y t') (hx : ρ x = .int .u64 a) (hy : ρ y = .int .u64 b) (hc : bits .xor .u64 a b = c) : (execOp ρ o).run P w = .ok (.value (.int .u64 c)) w := by
  obtain ⟨dst, op, type, pos, after, guard⟩ := o
  simp only at hop
  subst hop
  simp [execOp, hx, hy, eqGuard, Sem.run_pure, hc, go_sem]
/-- One cell is stored. -/
theorem Reg.st1 {P : Program} {w : World} {ρ : Operand → Value} {o : Oper} {ty : TypeId} {x y : Operand} {b off : Nat} {u v : Value} (hop : o.op = .store ty x y) (hx : ρ x = .pointer (some ⟨b, off, none⟩)) (hy : ρ y = v) (hc : w.cell? ⟨b, off, none⟩ = some u) (hf : w.frozen? ⟨b, off, none⟩ = false) (h1 : (∃ k n, v = .int k n) ∨ ∃ ao n c, v = .slice ao n c) (hsz : (sizeOf ty).run P w = .ok 1 w) : (execOp ρ o).run P w = .ok .skip (w.setCell ⟨b, off, none⟩ v) := by
  obtain ⟨dst, op, type, pos, after, guard⟩ := o
  simp only at hop
  subst hop
  have hs : (Instr.storeAt ty (.pointer (some ⟨b, off, none⟩)) v).run P w = .ok () (w.setCell ⟨b, off, none⟩ v) := by
    rcases h1 with ⟨k, n, rfl⟩ | ⟨ao, n, c, rfl⟩ <;> simp [Instr.storeAt, Instr.sureAddr, storeVar, Sem.run_bind, hsz, hc, hf, Result.andThen, go_sem]
  simp [execOp, hx, hy, hs, Result.andThen]
end Go.Proofs.YtidpalighpdlfaaGreatDoor
