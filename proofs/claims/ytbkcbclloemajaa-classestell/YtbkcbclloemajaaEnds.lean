/- The iterator over ends. -/
import Derived.Laws.Bits64
import Derived.Laws.Bits64b
import Derived.Test.YtbkcbclloemajaaEv
import Derived.Test.YtbkcbclloemajaaRegr
import Derived.Test.YtbkcbclloemajaaKeysb
import Derived.Test.YtbkcbclloemajaaFace
namespace Go.Proofs.Ytbkcbclloemajaa
open Go.RowKit Go.Shelf
attribute [local go_sem] Oper.semAt_some

/-- Rows of classes, of pieces, of ranges: those that Cut itself turns. -/
def Tg : Obj → Bool
  | .cells _ t _ => t == 63 || t == 65 || t == 48
  | _ => false
/-- The iterator's own doing: what lay below block e, and Cut's rows, lie as they lay. -/
structure Quiet (e : Nat) (A B : World) : Prop where
  os : B.os = A.os
  tape : B.tape = A.tape
  output : B.output = A.output
  size : A.heap.size ≤ B.heap.size
  same : ∀ (k : Nat) (o : Obj), A.heap[k]? = some o → (k < e ∨ Tg o = true) → B.heap[k]? = some o
/-- A round's doing: what was made from block e on, but for Cut's rows, lies as it lay. -/
structure Kept (e : Nat) (A B : World) : Prop where
  size : A.heap.size ≤ B.heap.size
  same : ∀ (k : Nat) (o : Obj), A.heap[k]? = some o → e ≤ k → Tg o = false → B.heap[k]? = some o
theorem Quiet.refl (e : Nat) (A : World) : Quiet e A A := ⟨rfl, rfl, rfl, Nat.le_refl _, fun _ _ h _ => h⟩
theorem Quiet.trans {e : Nat} {A B C : World} (h : Quiet e A B) (k : Quiet e B C) : Quiet e A C := ⟨k.os.trans h.os, k.tape.trans h.tape, k.output.trans h.output, Nat.le_trans h.size k.size, fun i o hi ho => k.same i o (h.same i o hi ho) ho⟩
theorem Quiet.mono {e e' : Nat} {A B : World} (h : Quiet e A B) (he : e' ≤ e) : Quiet e' A B := ⟨h.os, h.tape, h.output, h.size, fun i o hi ho => h.same i o hi (ho.imp (fun x => by omega) id)⟩
theorem quiet_below {e : Nat} {A B : World} (h : Below A.heap.size A B) : Quiet e A B := ⟨h.os, h.tape, h.output, h.size, fun k _ hk _ => (h.block k (Array.getElem?_eq_some_iff.1 hk).1).trans hk⟩
theorem quiet_put {e l : Nat} {A : World} {o : Obj} (h : A.heap[l]? = some o) (hl : e ≤ l) (ho : Tg o = false) (o' : Obj) : Quiet e A (A.putObj l o') :=
  ⟨rfl, rfl, rfl, by simp, fun k o2 hk hk2 => by
    have hne : k ≠ l := by
      rintro rfl
      rw [h] at hk
      cases hk
      rcases hk2 with h1 | h1
      · omega
      · rw [ho] at h1; cases h1
    rw [World.putObj_heap_other hne]
    exact hk⟩
theorem quiet_box {e B : Nat} {A : World} {t : TypeId} {v : Value} (h : Boxed A B t v) (hB : e ≤ B) (ht : Tg (.cells #[v] t (0, 0)) = false) (v' : Value) : Quiet e A (A.setCell ⟨B, 0, none⟩ v') :=
  ⟨rfl, rfl, rfl, (grownBy_setCell' A B v').size, fun k o hk hk2 => by
    have hne : k ≠ B := by
      rintro rfl
      rw [show A.heap[k]? = _ from h] at hk
      cases hk
      rcases hk2 with h1 | h1
      · omega
      · rw [ht] at h1; cases h1
    exact ((grownBy_setCell' A B v').block k (Array.getElem?_eq_some_iff.1 hk).1 (by simpa using hne)).trans hk⟩
theorem Kept.refl (e : Nat) (A : World) : Kept e A A := ⟨Nat.le_refl _, fun _ _ h _ _ => h⟩
theorem Kept.trans {e : Nat} {A B C : World} (h : Kept e A B) (k : Kept e B C) : Kept e A C := ⟨Nat.le_trans h.size k.size, fun i o hi he ho => k.same i o (h.same i o hi he ho) he ho⟩
theorem Kept.mono {e e' : Nat} {A B : World} (h : Kept e A B) (he : e ≤ e') : Kept e' A B := ⟨h.size, fun i o hi h1 ho => h.same i o hi (by omega) ho⟩
theorem kept_below {e : Nat} {A B : World} (h : Below A.heap.size A B) : Kept e A B := ⟨h.size, fun k _ hk _ _ => (h.block k (Array.getElem?_eq_some_iff.1 hk).1).trans hk⟩
theorem kept_grown {e k : Nat} {A B : World} (h : A.grownBy B (some k)) (hk : k < e) : Kept e A B := ⟨h.size, fun i _ hi he _ => (h.block i (Array.getElem?_eq_some_iff.1 hi).1 (fun x => by cases x; omega)).trans hi⟩
theorem below_grown {n k : Nat} {A B C : World} (h : Below n A B) (hg : B.grownBy C (some k)) (hk : n ≤ k) (hn : n ≤ A.heap.size) : Below n A C :=
  ⟨hg.os.trans h.os, hg.tape.trans h.tape, hg.output.trans h.output, Nat.le_trans h.size hg.size, fun i hi => (hg.block i (by have := h.size; omega) (fun x => by cases x; omega)).trans (h.block i hi)⟩

/-- An iterator that gives these, for rounds that go on and keep what is the iterator's. -/
def Seq9 {α : Type} (n : Nat) (g : Nat) (lb : Array Value) (encs : α → Array Value) (zs : List α) (w : World) : Prop :=
  ∀ (l : Nat) (J : List α → World → Prop) (W : World), Below w.heap.size w W → (∀ s A B, J s A → Quiet W.heap.size A B → J s B) →
    (∀ pre x W1, J pre W1 → pre ++ [x] <+: zs → YieldAt Fence.wide (n - 1) Try.prog l (encs x) W1 fun e W' => e = .returned (.bool true) ∧ J (pre ++ [x]) W' ∧ Kept W.heap.size W1 W') → J [] W →
    CallsIn Fence.wide n Try.prog g (#[.func (.yield l) #[] #[]] ++ lb) W fun e W' => (∃ v, e = .returned v) ∧ J zs W'

/-- Lists that lie one behind the other. -/
def RdS (w : World) (sao : Option Addr) (ls : List L3) : Prop := ∀ i (h : i < ls.length), ∃ b off, sao = some ⟨b, off, none⟩ ∧ w.cell? ⟨b, off + i, none⟩ = some (.slice ls[i].1 ls[i].2.2.length ls[i].2.1) ∧ RdR w ls[i].1 ls[i].2.2
theorem RdS.later {w w' : World} {sao : Option Addr} {ls : List L3} (h : RdS w sao ls) (hb : Below w.heap.size w w') : RdS w' sao ls := fun i hi =>
  let ⟨b, off, e, h1, h2⟩ := h i hi
  ⟨b, off, e, cell_later hb h1, h2.later hb⟩
def TOf (ls : List L3) : List (List S.R) := ls.map fun p => p.2.2
theorem TOf_at (ls : List L3) (i : Nat) (h : i < ls.length) : (TOf ls).getD i [] = ls[i].2.2 := by simp [TOf, List.getD_eq_getElem?_getD, List.getElem?_eq_getElem h]
/-- The map's numbers. -/
def mpf (L : List (Int × Nat)) : Int → Option Int := fun x => (evN L x).map fun m => (m : Int)
theorem mpf_get (L : List (Int × Nat)) (x : Int) : (mpf L x).getD 0 = (((evN L x).getD 0 : Nat) : Int) := by unfold mpf; cases evN L x <;> rfl
theorem mpf_snoc (L : List (Int × Nat)) (a : Int) (i : Nat) : mpf (L ++ [(a, i)]) = upd (mpf L) a (((evN L a).getD 0 ^^^ 2 ^ i : Nat) : Int) := by
  funext x
  unfold mpf upd
  rw [evN_snoc]
  by_cases h : x = a
  · simp [h]
  · simp [h]
def encE (p : Int × Nat) : Array Value := #[.int .i32 p.1, .int .u64 (p.2 : Int)]
noncomputable def endsL (ls : List L3) : List (Int × Nat) := evT (TOf ls) ls.length
noncomputable def endsZ (ls : List L3) : List (Int × Nat) := (ksOf (endsL ls)).map fun k => (k, (evN (endsL ls) k).getD 0)

theorem wf32 {x : Int} (h : -2147483648 ≤ x ∧ x ≤ 2147483647) : (Lit.int .i32 x).wf = true := by
  simp [Lit.wf, IntKind.min, IntKind.max, IntKind.bits, IntKind.signed]
  omega
theorem wf64 {m : Nat} (h : m < 2 ^ 64) : (Lit.int .u64 (m : Int)).wf = true := by
  simp [Lit.wf, IntKind.min, IntKind.max, IntKind.bits, IntKind.signed]
  omega
end Go.Proofs.Ytbkcbclloemajaa
