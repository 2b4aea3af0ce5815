/- Expressions as trees; how a tree lies in memory; what stays when one block is written. -/
import Derived.Test.YtemanednddhfaaaGreatDoorRk0
import Derived.Test.YtemanednddhfaaaGreatDoorJB
namespace Go.Proofs.YtemanednddhfaaaGreatDoor
open Go.RowKit
namespace E
inductive T where
 | mk (k a : Int) (s : List U.S.R) (n : List UInt8) (ks : List T)
def T.kind : T → Int | .mk k _ _ _ _ => k
def T.at_ : T → Int | .mk _ a _ _ _ => a
def T.set : T → List U.S.R | .mk _ _ s _ _ => s
def T.name : T → List UInt8 | .mk _ _ _ n _ => n
def T.kids : T → List T | .mk _ _ _ _ ks => ks
end E
open E (T)
def Cells5 (w : World) (b o : Nat) (v : Value) : Prop := ∃ c0 c1 c2 c3 c4, v = .agg #[c0, c1, c2, c3, c4] ∧ w.cell? ⟨b, o, none⟩ = some c0 ∧ w.cell? ⟨b, o + 1, none⟩ = some c1 ∧ w.cell? ⟨b, o + 2, none⟩ = some c2 ∧ w.cell? ⟨b, o + 3, none⟩ = some c3 ∧ w.cell? ⟨b, o + 4, none⟩ = some c4
mutual
def TR (w : World) (ok : Nat → Prop) : T → Value → Prop
 | .mk k a s n ks, v => ∃ sp sc kp kc, v = .agg #[.int .i64 k, .int .i64 a, .slice sp s.length sc, .string ⟨n.toArray⟩, .slice kp ks.length kc] ∧ U.RdR w sp s ∧ ks.length ≤ kc ∧ KR w ok ks kp 0
def KR (w : World) (ok : Nat → Prop) : List T → Option Addr → Nat → Prop
 | [], _, _ => True
 | t :: ts, kp, i => (∃ b off v, kp = some ⟨b, off, none⟩ ∧ ok b ∧ TR w ok t v ∧ Cells5 w b (off + i * 5) v) ∧ KR w ok ts kp (i + 1)
end
def NoI (w : World) (b : Nat) : Prop := ∀ off z, w.cell? ⟨b, off, none⟩ ≠ some (.int .i32 z)
def notI : Value → Bool | .int .i32 _ => false | _ => true
theorem noI_cells {w : World} {b : Nat} {cs : List Value} {t : TypeId} {f : Nat × Nat} (h : w.heap[b]? = some (.cells cs.toArray t f)) (hc : cs.all notI = true) : NoI w b := by
 intro off z hz
 simp only [World.cell?, h, List.getElem?_toArray] at hz
 have := List.all_eq_true.1 hc _ (List.mem_of_getElem? hz)
 simp [notI] at this
theorem cells5_same {w W : World} {b o : Nat} {v : Value} (h : Cells5 w b o v) (hs : W.heap[b]? = w.heap[b]?) : Cells5 W b o v := by
 obtain ⟨c0, c1, c2, c3, c4, e, h0, h1, h2, h3, h4⟩ := h
 have k : ∀ j, W.cell? ⟨b, j, none⟩ = w.cell? ⟨b, j, none⟩ := fun j => World.cell?_of_block (w := w) (a := ⟨b, j, none⟩) hs
 exact ⟨c0, c1, c2, c3, c4, e, by rw [k]; exact h0, by rw [k]; exact h1, by rw [k]; exact h2, by rw [k]; exact h3, by rw [k]; exact h4⟩
theorem cells5_lt {w : World} {b o : Nat} {v : Value} (h : Cells5 w b o v) : b < w.heap.size := by
 obtain ⟨c0, _, _, _, _, _, h0, _⟩ := h
 exact U.cell_lt h0
theorem rdr_but {w W : World} {sp : Option Addr} {s : List U.S.R} {x : Nat} (h : U.RdR w sp s) (hs : ∀ k, k < w.heap.size → k ≠ x → W.heap[k]? = w.heap[k]?) (hx : NoI w x) : U.RdR W sp s := fun i hi => by
 obtain ⟨b, off, e, h1, h2⟩ := h i hi
 have hb := U.cell_lt h1
 have hne : b ≠ x := by rintro rfl; exact hx _ _ h1
 have k : ∀ j, W.cell? ⟨b, j, none⟩ = w.cell? ⟨b, j, none⟩ := fun j => World.cell?_of_block (w := w) (a := ⟨b, j, none⟩) (hs b hb hne)
 exact ⟨b, off, e, by rw [k]; exact h1, by rw [k]; exact h2⟩
mutual
theorem TR.but {w W : World} {ok : Nat → Prop} {x : Nat} (hs : ∀ k, k < w.heap.size → k ≠ x → W.heap[k]? = w.heap[k]?) (hx : NoI w x) (hok : ¬ ok x) : ∀ (t : T) {v : Value}, TR w ok t v → TR W ok t v
 | .mk k a s n ks, v, h => by
   rw [TR] at h ⊢
   obtain ⟨sp, sc, kp, kc, e, h1, h2, h3⟩ := h
   exact ⟨sp, sc, kp, kc, e, rdr_but h1 hs hx, h2, KR.but hs hx hok ks h3⟩
theorem KR.but {w W : World} {ok : Nat → Prop} {x : Nat} (hs : ∀ k, k < w.heap.size → k ≠ x → W.heap[k]? = w.heap[k]?) (hx : NoI w x) (hok : ¬ ok x) : ∀ (ts : List T) {kp : Option Addr} {i : Nat}, KR w ok ts kp i → KR W ok ts kp i
 | [], kp, i, _ => by rw [KR]; trivial
 | t :: ts, kp, i, h => by
   rw [KR] at h ⊢
   obtain ⟨⟨b, off, v, e, h1, h2, h3⟩, h4⟩ := h
   exact ⟨⟨b, off, v, e, h1, TR.but hs hx hok t h2, cells5_same h3 (hs b (cells5_lt h3) (by rintro rfl; exact hok h1))⟩, KR.but hs hx hok ts h4⟩
end
mutual
theorem TR.mono {w : World} {ok ok' : Nat → Prop} (ho : ∀ b, b < w.heap.size → ok b → ok' b) : ∀ (t : T) {v : Value}, TR w ok t v → TR w ok' t v
 | .mk k a s n ks, v, h => by
   rw [TR] at h ⊢
   obtain ⟨sp, sc, kp, kc, e, h1, h2, h3⟩ := h
   exact ⟨sp, sc, kp, kc, e, h1, h2, KR.mono ho ks h3⟩
theorem KR.mono {w : World} {ok ok' : Nat → Prop} (ho : ∀ b, b < w.heap.size → ok b → ok' b) : ∀ (ts : List T) {kp : Option Addr} {i : Nat}, KR w ok ts kp i → KR w ok' ts kp i
 | [], kp, i, _ => by rw [KR]; trivial
 | t :: ts, kp, i, h => by
   rw [KR] at h ⊢
   obtain ⟨⟨b, off, v, e, h1, h2, h3⟩, h4⟩ := h
   exact ⟨⟨b, off, v, e, ho b (cells5_lt h3) h1, TR.mono ho t h2, h3⟩, KR.mono ho ts h4⟩
end
mutual
theorem TR.later {w W : World} {ok : Nat → Prop} (hs : ∀ k, k < w.heap.size → W.heap[k]? = w.heap[k]?) : ∀ (t : T) {v : Value}, TR w ok t v → TR W ok t v
 | .mk k a s n ks, v, h => by
   rw [TR] at h ⊢
   obtain ⟨sp, sc, kp, kc, e, h1, h2, h3⟩ := h
   refine ⟨sp, sc, kp, kc, e, fun i hi => ?_, h2, KR.later hs ks h3⟩
   obtain ⟨b, off, e, c1, c2⟩ := h1 i hi
   have k : ∀ j, W.cell? ⟨b, j, none⟩ = w.cell? ⟨b, j, none⟩ := fun j => World.cell?_of_block (w := w) (a := ⟨b, j, none⟩) (hs b (U.cell_lt c1))
   exact ⟨b, off, e, by rw [k]; exact c1, by rw [k]; exact c2⟩
theorem KR.later {w W : World} {ok : Nat → Prop} (hs : ∀ k, k < w.heap.size → W.heap[k]? = w.heap[k]?) : ∀ (ts : List T) {kp : Option Addr} {i : Nat}, KR w ok ts kp i → KR W ok ts kp i
 | [], kp, i, _ => by rw [KR]; trivial
 | t :: ts, kp, i, h => by
   rw [KR] at h ⊢
   obtain ⟨⟨b, off, v, e, h1, h2, h3⟩, h4⟩ := h
   exact ⟨⟨b, off, v, e, h1, TR.later hs t h2, cells5_same h3 (hs b (cells5_lt h3))⟩, KR.later hs ts h4⟩
end
structure Kp (n x : Nat) (w W : World) : Prop where
 os : W.os = w.os
 tape : W.tape = w.tape
 output : W.output = w.output
 size : w.heap.size ≤ W.heap.size
 block : ∀ k, k < n → k ≠ x → W.heap[k]? = w.heap[k]?
theorem Kp.refl (n x : Nat) (w : World) : Kp n x w w := ⟨rfl, rfl, rfl, Nat.le_refl _, fun _ _ _ => rfl⟩
theorem Kp.trans {n x : Nat} {a b c : World} (h : Kp n x a b) (k : Kp n x b c) : Kp n x a c :=
 ⟨k.os.trans h.os, k.tape.trans h.tape, k.output.trans h.output, Nat.le_trans h.size k.size, fun i hi hx => (k.block i hi hx).trans (h.block i hi hx)⟩
theorem Kp.mono {n m x : Nat} {a b : World} (h : Kp n x a b) (hm : m ≤ n) : Kp m x a b := ⟨h.os, h.tape, h.output, h.size, fun k hk hx => h.block k (Nat.lt_of_lt_of_le hk hm) hx⟩
theorem Kp.of {n x : Nat} {a b : World} (h : Below n a b) : Kp n x a b := ⟨h.os, h.tape, h.output, h.size, fun k hk _ => h.block k hk⟩
theorem Kp.nx {n x : Nat} {a b c : World} (h : Kp n x a b) (hn : n ≤ b.heap.size) (k : Kp b.heap.size x b c) : Kp n x a c := h.trans (k.mono hn)
theorem Kp.nb {n x : Nat} {a b c : World} (h : Kp n x a b) (hn : n ≤ b.heap.size) (k : Below b.heap.size b c) : Kp n x a c := h.nx hn (Kp.of k)
theorem Kp.alloc {n x : Nat} {a b : World} (h : Kp n x a b) (hn : n ≤ b.heap.size) (o : Obj) : Kp n x a (b.alloc o) := h.nb hn (al1 b o)
theorem Kp.set {n x : Nat} {a b : World} (h : Kp n x a b) {p : Addr} (hp : p.block = x ∨ n ≤ p.block) (u : Value) : Kp n x a (b.setCell p u) :=
 h.trans ⟨rfl, rfl, rfl, by simp [World.setCell], fun k hk hx => Below.heap_setCell _ _ _ _ (by omega)⟩
theorem Kp.drew {n x : Nat} {a w : World} (h : Kp n x a w) : Kp n x a w.drew := ⟨h.os, h.tape, h.output, h.size, h.block⟩
theorem Kp.below {n x : Nat} {a b : World} (h : Kp n x a b) (hx : n ≤ x) : Below n a b := ⟨h.os, h.tape, h.output, h.size, fun k hk => h.block k hk (by omega)⟩
theorem Kp.tabs {n x : Nat} {a b : World} (h : Kp n x a b) (hn : a.heap.size ≤ n) {k : Nat} {o : Obj} (hk : a.heap[k]? = some o) (hx : k ≠ x) : b.heap[k]? = some o :=
 (h.block k (Nat.lt_of_lt_of_le (Array.getElem?_eq_some_iff.1 hk).1 hn) hx).trans hk
structure Rdr (w : World) (R : Nat) (ao : Option Addr) (cap : Nat) (l : List (X.Tk × Nat)) (i o : Nat) : Prop where
 box : w.heap[R]? = some (.cells #[.slice ao l.length cap, .int .i64 (i : Int), .int .i64 (o : Int)] 125)
 rd : RdK w ao l
 lo : ∀ b off, ao = some ⟨b, off, none⟩ → b < R
theorem rdk_but {w W : World} {ao : Option Addr} {l : List (X.Tk × Nat)} {x : Nat} (h : RdK w ao l) (hs : ∀ k, k < w.heap.size → k ≠ x → W.heap[k]? = w.heap[k]?) (hx : ∀ b off, ao = some ⟨b, off, none⟩ → b ≠ x) : RdK W ao l := fun i hi => by
 obtain ⟨b, off, e, h0, h1, h2, h3⟩ := h i hi
 have k : ∀ j, W.cell? ⟨b, j, none⟩ = w.cell? ⟨b, j, none⟩ := fun j => World.cell?_of_block (w := w) (a := ⟨b, j, none⟩) (hs b (U.cell_lt h0) (hx b off e))
 exact ⟨b, off, e, by rw [k]; exact h0, by rw [k]; exact h1, by rw [k]; exact h2, by rw [k]; exact h3⟩
theorem Rdr.lt {w : World} {R : Nat} {ao : Option Addr} {cap : Nat} {l : List (X.Tk × Nat)} {i o : Nat} (h : Rdr w R ao cap l i o) : R < w.heap.size := (Array.getElem?_eq_some_iff.1 h.box).1
theorem Rdr.noI {w : World} {R : Nat} {ao : Option Addr} {cap : Nat} {l : List (X.Tk × Nat)} {i o : Nat} (h : Rdr w R ao cap l i o) : NoI w R := noI_cells (cs := [_, _, _]) h.box rfl
theorem Rdr.later {w W : World} {R : Nat} {ao : Option Addr} {cap : Nat} {l : List (X.Tk × Nat)} {i o : Nat} (h : Rdr w R ao cap l i o) (hb : Below w.heap.size w W) : Rdr W R ao cap l i o :=
 ⟨(hb.block R h.lt).trans h.box, h.rd.later hb, h.lo⟩
theorem Rdr.cells {w : World} {R : Nat} {ao : Option Addr} {cap : Nat} {l : List (X.Tk × Nat)} {i o : Nat} (h : Rdr w R ao cap l i o) :
   w.cell? ⟨R, 0, none⟩ = some (.slice ao l.length cap) ∧ w.cell? ⟨R, 1, none⟩ = some (.int .i64 (i : Int)) ∧ w.cell? ⟨R, 2, none⟩ = some (.int .i64 (o : Int)) := by simp [World.cell?, h.box]
theorem Rdr.frz {w : World} {R : Nat} {ao : Option Addr} {cap : Nat} {l : List (X.Tk × Nat)} {i o : Nat} (h : Rdr w R ao cap l i o) (j : Nat) : w.frozen? ⟨R, j, none⟩ = false := by simp [World.frozen?, h.box]
theorem Rdr.put {w : World} {R : Nat} {ao : Option Addr} {cap : Nat} {l : List (X.Tk × Nat)} {i o : Nat} (h : Rdr w R ao cap l i o) (j : Nat) : Rdr (w.setCell ⟨R, 1, none⟩ (.int .i64 (j : Int))) R ao cap l j o := by
 refine ⟨?_, rdk_but h.rd (fun k _ hk => Below.heap_setCell _ _ _ _ hk) (fun b off e => Nat.ne_of_lt (h.lo b off e)), h.lo⟩
 simp [World.setCell, Array.getElem?_modify, h.box]
theorem Rdr.putO {w : World} {R : Nat} {ao : Option Addr} {cap : Nat} {l : List (X.Tk × Nat)} {i o : Nat} (h : Rdr w R ao cap l i o) (j : Nat) : Rdr (w.setCell ⟨R, 2, none⟩ (.int .i64 (j : Int))) R ao cap l i j := by
 refine ⟨?_, rdk_but h.rd (fun k _ hk => Below.heap_setCell _ _ _ _ hk) (fun b off e => Nat.ne_of_lt (h.lo b off e)), h.lo⟩
 simp [World.setCell, Array.getElem?_modify, h.box]
theorem Rdr.but {w W : World} {R x : Nat} {ao : Option Addr} {cap : Nat} {l : List (X.Tk × Nat)} {i o : Nat} (h : Rdr w R ao cap l i o) (hs : ∀ k, k < w.heap.size → k ≠ x → W.heap[k]? = w.heap[k]?) (hx : R < x) : Rdr W R ao cap l i o :=
 ⟨(hs R h.lt (by omega)).trans h.box, rdk_but h.rd hs (fun b off e => by have := h.lo b off e; omega), h.lo⟩
end Go.Proofs.YtemanednddhfaaaGreatDoor
