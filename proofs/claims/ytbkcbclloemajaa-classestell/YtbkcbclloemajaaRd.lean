/- Slices that read as ranges; rows of ranges that the call itself made. -/
import Derived.RangeFuncNested
import Derived.RangeFuncBound
import Derived.RangeFuncCalls
import Derived.RangeFuncLeaves
import Derived.RangeFuncBox
import Derived.Shelf.Abstract
import Derived.OwnWalkIn
import Derived.TacticsInMore
import Derived.LoopNIn
import Derived.LoopIn
import Derived.Maps.AppendAt
import Derived.Laws.AppendOwnNone
import Derived.Test.YtbkcbclloemajaaLeaf
namespace Go.Proofs.Ytbkcbclloemajaa
open Go.RowKit Go.Shelf

def cR (xs : List S.R) : List Value := xs.flatMap fun r => [Value.int .i32 r.1, Value.int .i32 r.2]
theorem cR_nil : cR [] = [] := rfl
theorem cR_cons (x : S.R) (xs : List S.R) : cR (x :: xs) = .int .i32 x.1 :: .int .i32 x.2 :: cR xs := rfl
theorem cR_append (xs ys : List S.R) : cR (xs ++ ys) = cR xs ++ cR ys := by simp [cR]
theorem cR_length (xs : List S.R) : (cR xs).length = xs.length * 2 := by
  induction xs with
  | nil => rfl
  | cons x xs ih => rw [cR_cons]; simp [ih]; omega
theorem cR_one (xs : List S.R) : ∀ u ∈ cR xs, u.oneCell' = true := by
  intro u hu
  obtain ⟨r, _, h⟩ := List.mem_flatMap.1 hu
  simp at h
  rcases h with rfl | rfl <;> rfl
theorem cR_at (xs : List S.R) (i : Nat) (h : i < xs.length) : (cR xs)[i * 2]? = some (.int .i32 xs[i].1) ∧ (cR xs)[i * 2 + 1]? = some (.int .i32 xs[i].2) := by
  induction xs generalizing i with
  | nil => simp at h
  | cons x xs ih =>
    cases i with
    | zero => rw [cR_cons]; simp
    | succ i =>
      rw [cR_cons]
      have := ih i (by simpa using h)
      rw [show (i + 1) * 2 = i * 2 + 1 + 1 by omega]
      simpa using this

/-- The slice reads as these ranges. -/
def RdR (w : World) (ao : Option Addr) (xs : List S.R) : Prop :=
  ∀ i (h : i < xs.length), ∃ b off, ao = some ⟨b, off, none⟩ ∧ w.cell? ⟨b, off + i * 2, none⟩ = some (.int .i32 xs[i].1) ∧ w.cell? ⟨b, off + i * 2 + 1, none⟩ = some (.int .i32 xs[i].2)
theorem rdr_nil (w : World) (ao : Option Addr) : RdR w ao [] := fun i h => by simp at h
theorem RdR.later {w wx : World} {ao : Option Addr} {xs : List S.R} (h : RdR w ao xs) (hb : Below w.heap.size w wx) : RdR wx ao xs := fun i hi =>
  let ⟨b, off, e, h1, h2⟩ := h i hi
  ⟨b, off, e, cell_later hb h1, cell_later hb h2⟩
theorem RdR.kept {W W' : World} {ao : Option Addr} {xs : List S.R} {row : Option Nat} (h : RdR W ao xs) (hg : W.grownBy W' row) (hr : ∀ r, row = some r → ∃ o : Obj, W.heap[r]? = some o ∧ o.isCells = false) : RdR W' ao xs := fun i hi =>
  let ⟨b, off, e, h1, h2⟩ := h i hi
  ⟨b, off, e, cell_kept h1 hg hr, cell_kept h2 hg hr⟩
theorem cell_lt {w : World} {a : Addr} {v : Value} (h : w.cell? a = some v) : a.block < w.heap.size := by
  unfold World.cell? at h
  cases hq : w.heap[a.block]? with
  | none => simp [hq] at h
  | some o => exact (Array.getElem?_eq_some_iff.1 hq).1
/-- Where the ranges lie. -/
def Lo (n0 : Nat) (ao : Option Addr) (len : Nat) : Prop := ∀ b off, ao = some ⟨b, off, none⟩ → 0 < len → b < n0
theorem Lo.mono {n m : Nat} {ao : Option Addr} {len : Nat} (h : Lo n ao len) (hm : n ≤ m) : Lo m ao len := fun b off e hl => Nat.lt_of_lt_of_le (h b off e hl) hm
theorem RdR.lo {w : World} {ao : Option Addr} {xs : List S.R} (h : RdR w ao xs) : Lo w.heap.size ao xs.length := by
  intro b off e hl
  obtain ⟨b', off', e', h1, _⟩ := h 0 hl
  rw [e] at e'
  cases e'
  exact cell_lt h1
theorem RdR.below {A B : World} {n : Nat} {ao : Option Addr} {xs : List S.R} (h : RdR A ao xs) (hlo : Lo n ao xs.length) (hb : Below n A B) : RdR B ao xs := fun i hi =>
  let ⟨b, off, e, h1, h2⟩ := h i hi
  ⟨b, off, e, (hb.cell (hlo b off e (by omega))).trans h1, (hb.cell (hlo b off e (by omega))).trans h2⟩
theorem RdR.under {A B : World} {n : Nat} {ao : Option Addr} {xs : List S.R} (h : RdR A ao xs) (hlo : Lo n ao xs.length) (hc : ∀ a v, a.block < n → A.cell? a = some v → B.cell? a = some v) : RdR B ao xs := fun i hi =>
  let ⟨b, off, e, h1, h2⟩ := h i hi
  ⟨b, off, e, hc _ _ (hlo b off e (by omega)) h1, hc _ _ (hlo b off e (by omega)) h2⟩
theorem grown_below {w w' : World} (h : Below w.heap.size w w') (row : Option Nat) : w.grownBy w' row := ⟨h.os, h.tape, h.output, h.size, fun k hk _ => h.block k hk⟩

/-- The value v owns a row of ranges that the call itself made, from block B on. -/
def OwnR (w : World) (B : Nat) (e : TypeId) (v : Value) (xs : List S.R) : Prop := w.ownsRow B e 2 v xs.length (cR xs)
theorem ownR_nil (w : World) (B : Nat) (e : TypeId) : OwnR w B e (.slice none 0 0) [] := World.ownsRow_nil w _ _ _
theorem OwnR.block {w : World} {B : Nat} {e : TypeId} {v : Value} {xs : List S.R} (h : OwnR w B e v xs) : ∀ k, v.ownBlock = some k → B ≤ k := by
  intro g hg
  obtain ⟨_, ⟨rfl, _⟩ | ⟨g', cap', cur', rfl, hg', _⟩⟩ := h
  · simp [Value.ownBlock] at hg
  · simp [Value.ownBlock] at hg; omega
theorem OwnR.rd {w : World} {B : Nat} {e : TypeId} {v : Value} {xs : List S.R} (h : OwnR w B e v xs) : ∃ ao cap, v = .slice ao xs.length cap ∧ xs.length ≤ cap ∧ (ao = none → cap = 0) ∧ RdR w ao xs := by
  obtain ⟨_, h | ⟨g, cap, cur, rfl, _, hg, hle, _, hsz, hxs⟩⟩ := h
  · obtain ⟨rfl, hn⟩ := h
    have : xs = [] := List.eq_nil_of_length_eq_zero hn
    subst this
    exact ⟨none, 0, rfl, Nat.le_refl _, fun _ => rfl, rdr_nil _ _⟩
  · refine ⟨_, cap, rfl, hle, fun h => (by cases h), fun i hi => ⟨g, 0, rfl, ?_, ?_⟩⟩
    all_goals
      have ha := cR_at xs i hi
      simp only [World.cell?, hg, Nat.zero_add]
    · have h1 : (cur.toList.take (xs.length * 2))[i * 2]? = (cR xs)[i * 2]? := by rw [hxs]
      rw [List.getElem?_take, if_pos (by omega), ha.1] at h1
      simpa using h1
    · have h1 : (cur.toList.take (xs.length * 2))[i * 2 + 1]? = (cR xs)[i * 2 + 1]? := by rw [hxs]
      rw [List.getElem?_take, if_pos (by omega), ha.2] at h1
      simpa using h1

theorem info34 : (Try.prog.info? 48).map (fun i => (i.zero, i.size, i.bytes)) = some (some (.agg #[.int .i32 0, .int .i32 0]), 2, 8) := by kernel_rfl
theorem info56 : (Try.prog.info? 76).map (fun i => (i.zero, i.size, i.bytes)) = some (some (.agg #[.int .i32 0, .int .i32 0]), 2, 8) := by kernel_rfl
theorem info_parts2 {P : Program} {e : TypeId} {z : Value} {s b : Nat} (h : (P.info? e).map (fun i => (i.zero, i.size, i.bytes)) = some (some z, s, b)) : ∃ i, P.info? e = some i ∧ i.zero = some z ∧ i.size = s ∧ i.bytes = b := by
  cases hq : P.info? e with
  | none => simp [hq] at h
  | some i => simp [hq] at h; exact ⟨i, rfl, h.1, h.2.1, h.2.2⟩

/-- What a round over spans is told. -/
def encP (x : S.R) : Array Value := #[.agg #[.int .i32 x.1, .int .i32 x.2]]

/-- What the rounds keep (Kp) and what the iterator knows between them (Q): what was made ahead of the round stays, but for what is the caller's own. -/
structure Hold (Kp : World → World → Prop) (Q : World → Prop) : Prop where
  grow : ∀ A B, Q A → Below A.heap.size A B → Q B
  step : ∀ A B, Q A → Kp A B → Q B
  fresh : ∀ A cs t B, Q A → Kp (A.alloc (.cells cs t)) B → B.heap[A.heap.size]? = some (.cells cs t)

/-- Which blocks are the caller's own (mine), in worlds that are as the caller keeps them (Ok); n0: where its own begin; n1: where its loop begins. -/
structure Mine (n0 n1 : Nat) (Ok : World → Prop) (mine : World → Nat → Prop) : Prop where
  lt : ∀ A k, Ok A → mine A k → n0 ≤ k ∧ k < A.heap.size
  grow : ∀ A B, Ok A → Below A.heap.size A B → Ok B ∧ ∀ k, mine B k → mine A k
  turn : ∀ A l o o', Ok A → n1 ≤ l → A.heap[l]? = some o → o.isCells = false → Ok (A.putObj l o') ∧ ∀ k, mine (A.putObj l o') k → mine A k
/-- A round keeps all that lies there but what is the caller's own. -/
def KpM (Ok : World → Prop) (mine : World → Nat → Prop) (A B : World) : Prop :=
  Ok A → Ok B ∧ A.heap.size ≤ B.heap.size ∧ (∀ (k : Nat) (o : Obj), A.heap[k]? = some o → o.isCells = true → ¬ mine A k → B.heap[k]? = some o) ∧ ∀ k, mine B k → mine A k ∨ A.heap.size ≤ k
theorem kpM_t {Ok : World → Prop} {mine : World → Nat → Prop} {A B C : World} (h1 : KpM Ok mine A B) (h2 : KpM Ok mine B C) : KpM Ok mine A C := by
  intro hA
  obtain ⟨b1, b2, b3, b4⟩ := h1 hA
  obtain ⟨c1, c2, c3, c4⟩ := h2 b1
  refine ⟨c1, Nat.le_trans b2 c2, fun k o hk ho hm => c3 k o (b3 k o hk ho hm) ho fun hm' => ?_, fun k hk => ?_⟩
  · rcases b4 k hm' with h | h
    · exact hm h
    · have := (Array.getElem?_eq_some_iff.1 hk).1; omega
  · rcases c4 k hk with h | h
    · exact b4 k h
    · exact .inr (by omega)
theorem kpM_b {n0 n1 : Nat} {Ok : World → Prop} {mine : World → Nat → Prop} (hM : Mine n0 n1 Ok mine) (W : World) (l : Nat) (o o' : Obj) (hl : n1 ≤ l) (h : W.heap[l]? = some o) (ho : o.isCells = false) (_ : o.isWalk = false) : KpM Ok mine W (W.putObj l o') := by
  intro hA
  obtain ⟨h1, h2⟩ := hM.turn W l o o' hA hl h ho
  refine ⟨h1, by simp [World.putObj], fun k ob hk hob _ => ?_, fun k hk => .inl (h2 k hk)⟩
  have hne : k ≠ l := by
    rintro rfl
    rw [h] at hk
    cases hk
    rw [ho] at hob
    cases hob
  rw [(grownBy_putObj' W l o').block k (Array.getElem?_eq_some_iff.1 hk).1 (by simpa using hne)]
  exact hk
/-- What lies below where the caller's own begin is kept. -/
theorem KpM.cell {n0 n1 : Nat} {Ok : World → Prop} {mine : World → Nat → Prop} (hM : Mine n0 n1 Ok mine) {A B : World} (hA : Ok A) (h : KpM Ok mine A B) {a : Addr} {v : Value} (ha : a.block < n0) (hc : A.cell? a = some v) : B.cell? a = some v := by
  obtain ⟨_, _, h3, _⟩ := h hA
  cases hq : A.heap[a.block]? with
  | none => unfold World.cell? at hc; simp [hq] at hc
  | some o =>
    have ho : o.isCells = true := by
      unfold World.cell? at hc
      rw [hq] at hc
      cases o <;> simp_all [Obj.isCells]
    have := h3 a.block o hq ho (fun hm => by have := (hM.lt A a.block hA hm).1; omega)
    rw [World.cell?_of_block (w := A) (this.trans hq.symm)]
    exact hc
theorem hold_of {n0 n1 : Nat} {Ok : World → Prop} {mine : World → Nat → Prop} (hM : Mine n0 n1 Ok mine) {St : World → Prop} (hg : ∀ A B, St A → Below A.heap.size A B → St B)
    (hs : ∀ A B, St A → (∀ a v, a.block < n0 → A.cell? a = some v → B.cell? a = some v) → St B) : Hold (KpM Ok mine) (fun W => Ok W ∧ St W) where
  grow A B h hb := ⟨(hM.grow A B h.1 hb).1, hg A B h.2 hb⟩
  step A B h hk := ⟨(hk h.1).1, hs A B h.2 (fun a v ha hc => hk.cell hM h.1 ha hc)⟩
  fresh A cs t B h hk := by
    have hb := al1 A (.cells cs t)
    obtain ⟨h1, h2⟩ := hM.grow A _ h.1 hb
    refine (hk h1).2.2.1 A.heap.size _ (World.alloc_heap_new A _) rfl fun hm => ?_
    have := (hM.lt A A.heap.size h.1 (h2 _ hm)).2
    omega

/-- An iterator that gives these, one behind the other, whatever a round does with what is the caller's own. -/
def Gives (n : Nat) (g : Nat) (lb : Array Value) (zs : List S.R) (n0 : Nat) (w : World) : Prop :=
  ∀ n1 Ok mine, Mine n0 n1 Ok mine → Ok w → SeqStopsK Fence.wide n Try.prog g lb encP (KpM Ok mine) (fun ys => ys = zs) (fun pre => pre <+: zs) zs.length w
end Go.Proofs.Ytbkcbclloemajaa
