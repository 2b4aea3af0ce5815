/- Joined: Tre Psp Rga Lf1. -/
import Derived.Test.YtemanednddhfaaaGreatDoorMRk0
import Derived.Test.YtemanednddhfaaaGreatDoorMJB
import Derived.Test.YtemanednddhfaaaGreatDoorMJG
import Derived.Test.YtemanednddhfaaaGreatDoorMJD
namespace Go.Proofs.YtemanednddhfaaaGreatDoor
open Go.RowKit
namespace E
inductive T where
 | mk (k a : Int) (s : List U.S.R) (n : List UInt8) (ks : List T)
def T.kind : T → Int | .mk k _ _ _ _ => k
def T.at_ : T → Int | .mk _ a _ _ _ => a
def T.set : T → List U.S.R | .mk _ _ s _ _ => s
def T.name : T → List UInt8 | .mk _ _ _ n _ => n
def T.kids : T → List T | .mk _ _ _ _ ks => ks
end E
open E (T)
def Cells5 (w : World) (b o : Nat) (v : Value) : Prop := ∃ c0 c1 c2 c3 c4, v = .agg #[c0, c1, c2, c3, c4] ∧ w.cell? ⟨b, o, none⟩ = some c0 ∧ w.cell? ⟨b, o + 1, none⟩ = some c1 ∧ w.cell? ⟨b, o + 2, none⟩ = some c2 ∧ w.cell? ⟨b, o + 3, none⟩ = some c3 ∧ w.cell? ⟨b, o + 4, none⟩ = some c4
mutual
def TR (w : World) (ok : Nat → Prop) : T → Value → Prop
 | .mk k a s n ks, v => ∃ sp sc kp kc, v = .agg #[.int .i64 k, .int .i64 a, .slice sp s.length sc, .string ⟨n.toArray⟩, .slice kp ks.length kc] ∧ U.RdR w sp s ∧ ks.length ≤ kc ∧ KR w ok ks kp 0
def KR (w : World) (ok : Nat → Prop) : List T → Option Addr → Nat → Prop
 | [], _, _ => True
 | t :: ts, kp, i => (∃ b off v, kp = some ⟨b, off, none⟩ ∧ ok b ∧ TR w ok t v ∧ Cells5 w b (off + i * 5) v) ∧ KR w ok ts kp (i + 1)
end
def NoI (w : World) (b : Nat) : Prop := ∀ off z, w.cell? ⟨b, off, none⟩ ≠ some (.int .i32 z)
def notI : Value → Bool | .int .i32 _ => false | _ => true
theorem noI_cells {w : World} {b : Nat} {cs : List Value} {t : TypeId} {f : Nat × Nat} (h : w.heap[b]? = some (.cells cs.toArray t f)) (hc : cs.all notI = true) : NoI w b := by
 intro off z hz
 simp only [World.cell?, h, List.getElem?_toArray] at hz
 have := List.all_eq_true.1 hc _ (List.mem_of_getElem? hz)
 simp [notI] at this
theorem cells5_same {w W : World} {b o : Nat} {v : Value} (h : Cells5 w b o v) (hs : W.heap[b]? = w.heap[b]?) : Cells5 W b o v := by
 obtain ⟨c0, c1, c2, c3, c4, e, h0, h1, h2, h3, h4⟩ := h
 have k : ∀ j, W.cell? ⟨b, j, none⟩ = w.cell? ⟨b, j, none⟩ := fun j => World.cell?_of_block (w := w) (a := ⟨b, j, none⟩) hs
 exact ⟨c0, c1, c2, c3, c4, e, by rw [k]; exact h0, by rw [k]; exact h1, by rw [k]; exact h2, by rw [k]; exact h3, by rw [k]; exact h4⟩
theorem cells5_lt {w : World} {b o : Nat} {v : Value} (h : Cells5 w b o v) : b < w.heap.size := by
 obtain ⟨c0, _, _, _, _, _, h0, _⟩ := h
 exact U.cell_lt h0
theorem rdr_but {w W : World} {sp : Option Addr} {s : List U.S.R} {x : Nat} (h : U.RdR w sp s) (hs : ∀ k, k < w.heap.size → k ≠ x → W.heap[k]? = w.heap[k]?) (hx : NoI w x) : U.RdR W sp s := fun i hi => by
 obtain ⟨b, off, e, h1, h2⟩ := h i hi
 have hb := U.cell_lt h1
 have hne : b ≠ x := by rintro rfl; exact hx _ _ h1
 have k : ∀ j, W.cell? ⟨b, j, none⟩ = w.cell? ⟨b, j, none⟩ := fun j => World.cell?_of_block (w := w) (a := ⟨b, j, none⟩) (hs b hb hne)
 exact ⟨b, off, e, by rw [k]; exact h1, by rw [k]; exact h2⟩
mutual
theorem TR.but {w W : World} {ok : Nat → Prop} {x : Nat} (hs : ∀ k, k < w.heap.size → k ≠ x → W.heap[k]? = w.heap[k]?) (hx : NoI w x) (hok : ¬ ok x) : ∀ (t : T) {v : Value}, TR w ok t v → TR W ok t v
 | .mk k a s n ks, v, h => by
   rw [TR] at h ⊢
   obtain ⟨sp, sc, kp, kc, e, h1, h2, h3⟩ := h
   exact ⟨sp, sc, kp, kc, e, rdr_but h1 hs hx, h2, KR.but hs hx hok ks h3⟩
theorem KR.but {w W : World} {ok : Nat → Prop} {x : Nat} (hs : ∀ k, k < w.heap.size → k ≠ x → W.heap[k]? = w.heap[k]?) (hx : NoI w x) (hok : ¬ ok x) : ∀ (ts : List T) {kp : Option Addr} {i : Nat}, KR w ok ts kp i → KR W ok ts kp i
 | [], kp, i, _ => by rw [KR]; trivial
 | t :: ts, kp, i, h => by
   rw [KR] at h ⊢
   obtain ⟨⟨b, off, v, e, h1, h2, h3⟩, h4⟩ := h
   exact ⟨⟨b, off, v, e, h1, TR.but hs hx hok t h2, cells5_same h3 (hs b (cells5_lt h3) (by rintro rfl; exact hok h1))⟩, KR.but hs hx hok ts h4⟩
end
mutual
theorem TR.mono {w : World} {ok ok' : Nat → Prop} (ho : ∀ b, b < w.heap.size → ok b → ok' b) : ∀ (t : T) {v : Value}, TR w ok t v → TR w ok' t v
 | .mk k a s n ks, v, h => by
   rw [TR] at h ⊢
   obtain ⟨sp, sc, kp, kc, e, h1, h2, h3⟩ := h
   exact ⟨sp, sc, kp, kc, e, h1, h2, KR.mono ho ks h3⟩
theorem KR.mono {w : World} {ok ok' : Nat → Prop} (ho : ∀ b, b < w.heap.size → ok b → ok' b) : ∀ (ts : List T) {kp : Option Addr} {i : Nat}, KR w ok ts kp i → KR w ok' ts kp i
 | [], kp, i, _ => by rw [KR]; trivial
 | t :: ts, kp, i, h => by
   rw [KR] at h ⊢
   obtain ⟨⟨b, off, v, e, h1, h2, h3⟩, h4⟩ := h
   exact ⟨⟨b, off, v, e, ho b (cells5_lt h3) h1, TR.mono ho t h2, h3⟩, KR.mono ho ts h4⟩
end
mutual
theorem TR.later {w W : World} {ok : Nat → Prop} (hs : ∀ k, k < w.heap.size → W.heap[k]? = w.heap[k]?) : ∀ (t : T) {v : Value}, TR w ok t v → TR W ok t v
 | .mk k a s n ks, v, h => by
   rw [TR] at h ⊢
   obtain ⟨sp, sc, kp, kc, e, h1, h2, h3⟩ := h
   refine ⟨sp, sc, kp, kc, e, fun i hi => ?_, h2, KR.later hs ks h3⟩
   obtain ⟨b, off, e, c1, c2⟩ := h1 i hi
   have k : ∀ j, W.cell? ⟨b, j, none⟩ = w.cell? ⟨b, j, none⟩ := fun j => World.cell?_of_block (w := w) (a := ⟨b, j, none⟩) (hs b (U.cell_lt c1))
   exact ⟨b, off, e, by rw [k]; exact c1, by rw [k]; exact c2⟩
theorem KR.later {w W : World} {ok : Nat → Prop} (hs : ∀ k, k < w.heap.size → W.heap[k]? = w.heap[k]?) : ∀ (ts : List T) {kp : Option Addr} {i : Nat}, KR w ok ts kp i → KR W ok ts kp i
 | [], kp, i, _ => by rw [KR]; trivial
 | t :: ts, kp, i, h => by
   rw [KR] at h ⊢
   obtain ⟨⟨b, off, v, e, h1, h2, h3⟩, h4⟩ := h
   exact ⟨⟨b, off, v, e, h1, TR.later hs t h2, cells5_same h3 (hs b (cells5_lt h3))⟩, KR.later hs ts h4⟩
end
structure Kp (n x : Nat) (w W : World) : Prop where
 os : W.os = w.os
 tape : W.tape = w.tape
 output : W.output = w.output
 size : w.heap.size ≤ W.heap.size
 block : ∀ k, k < n → k ≠ x → W.heap[k]? = w.heap[k]?
theorem Kp.trans {n x : Nat} {a b c : World} (h : Kp n x a b) (k : Kp n x b c) : Kp n x a c :=
 ⟨k.os.trans h.os, k.tape.trans h.tape, k.output.trans h.output, Nat.le_trans h.size k.size, fun i hi hx => (k.block i hi hx).trans (h.block i hi hx)⟩
theorem Kp.mono {n m x : Nat} {a b : World} (h : Kp n x a b) (hm : m ≤ n) : Kp m x a b := ⟨h.os, h.tape, h.output, h.size, fun k hk hx => h.block k (Nat.lt_of_lt_of_le hk hm) hx⟩
theorem Kp.of {n x : Nat} {a b : World} (h : Below n a b) : Kp n x a b := ⟨h.os, h.tape, h.output, h.size, fun k hk _ => h.block k hk⟩
theorem Kp.nx {n x : Nat} {a b c : World} (h : Kp n x a b) (hn : n ≤ b.heap.size) (k : Kp b.heap.size x b c) : Kp n x a c := h.trans (k.mono hn)
theorem Kp.nb {n x : Nat} {a b c : World} (h : Kp n x a b) (hn : n ≤ b.heap.size) (k : Below b.heap.size b c) : Kp n x a c := h.nx hn (Kp.of k)
theorem Kp.set {n x : Nat} {a b : World} (h : Kp n x a b) {p : Addr} (hp : p.block = x ∨ n ≤ p.block) (u : Value) : Kp n x a (b.setCell p u) :=
 h.trans ⟨rfl, rfl, rfl, by simp [World.setCell], fun k hk hx => Below.heap_setCell _ _ _ _ (by omega)⟩
theorem Kp.below {n x : Nat} {a b : World} (h : Kp n x a b) (hx : n ≤ x) : Below n a b := ⟨h.os, h.tape, h.output, h.size, fun k hk => h.block k hk (by omega)⟩
theorem Kp.tabs {n x : Nat} {a b : World} (h : Kp n x a b) (hn : a.heap.size ≤ n) {k : Nat} {o : Obj} (hk : a.heap[k]? = some o) (hx : k ≠ x) : b.heap[k]? = some o :=
 (h.block k (Nat.lt_of_lt_of_le (Array.getElem?_eq_some_iff.1 hk).1 hn) hx).trans hk
structure Rdr (w : World) (R : Nat) (ao : Option Addr) (cap : Nat) (l : List (X.Tk × Nat)) (i o : Nat) : Prop where
 box : w.heap[R]? = some (.cells #[.slice ao l.length cap, .int .i64 (i : Int), .int .i64 (o : Int)] 125)
 rd : RdK w ao l
 lo : ∀ b off, ao = some ⟨b, off, none⟩ → b < R
theorem rdk_but {w W : World} {ao : Option Addr} {l : List (X.Tk × Nat)} {x : Nat} (h : RdK w ao l) (hs : ∀ k, k < w.heap.size → k ≠ x → W.heap[k]? = w.heap[k]?) (hx : ∀ b off, ao = some ⟨b, off, none⟩ → b ≠ x) : RdK W ao l := fun i hi => by
 obtain ⟨b, off, e, h0, h1, h2, h3⟩ := h i hi
 have k : ∀ j, W.cell? ⟨b, j, none⟩ = w.cell? ⟨b, j, none⟩ := fun j => World.cell?_of_block (w := w) (a := ⟨b, j, none⟩) (hs b (U.cell_lt h0) (hx b off e))
 exact ⟨b, off, e, by rw [k]; exact h0, by rw [k]; exact h1, by rw [k]; exact h2, by rw [k]; exact h3⟩
theorem Rdr.lt {w : World} {R : Nat} {ao : Option Addr} {cap : Nat} {l : List (X.Tk × Nat)} {i o : Nat} (h : Rdr w R ao cap l i o) : R < w.heap.size := (Array.getElem?_eq_some_iff.1 h.box).1
theorem Rdr.noI {w : World} {R : Nat} {ao : Option Addr} {cap : Nat} {l : List (X.Tk × Nat)} {i o : Nat} (h : Rdr w R ao cap l i o) : NoI w R := noI_cells (cs := [_, _, _]) h.box rfl
theorem Rdr.later {w W : World} {R : Nat} {ao : Option Addr} {cap : Nat} {l : List (X.Tk × Nat)} {i o : Nat} (h : Rdr w R ao cap l i o) (hb : Below w.heap.size w W) : Rdr W R ao cap l i o :=
 ⟨(hb.block R h.lt).trans h.box, h.rd.later hb, h.lo⟩
theorem Rdr.cells {w : World} {R : Nat} {ao : Option Addr} {cap : Nat} {l : List (X.Tk × Nat)} {i o : Nat} (h : Rdr w R ao cap l i o) :
  w.cell? ⟨R, 0, none⟩ = some (.slice ao l.length cap) ∧ w.cell? ⟨R, 1, none⟩ = some (.int .i64 (i : Int)) ∧ w.cell? ⟨R, 2, none⟩ = some (.int .i64 (o : Int)) := by simp [World.cell?, h.box]
theorem Rdr.frz {w : World} {R : Nat} {ao : Option Addr} {cap : Nat} {l : List (X.Tk × Nat)} {i o : Nat} (h : Rdr w R ao cap l i o) (j : Nat) : w.frozen? ⟨R, j, none⟩ = false := by simp [World.frozen?, h.box]
theorem Rdr.put {w : World} {R : Nat} {ao : Option Addr} {cap : Nat} {l : List (X.Tk × Nat)} {i o : Nat} (h : Rdr w R ao cap l i o) (j : Nat) : Rdr (w.setCell ⟨R, 1, none⟩ (.int .i64 (j : Int))) R ao cap l j o := by
 refine ⟨?_, rdk_but h.rd (fun k _ hk => Below.heap_setCell _ _ _ _ hk) (fun b off e => Nat.ne_of_lt (h.lo b off e)), h.lo⟩
 simp [World.setCell, Array.getElem?_modify, h.box]
theorem Rdr.putO {w : World} {R : Nat} {ao : Option Addr} {cap : Nat} {l : List (X.Tk × Nat)} {i o : Nat} (h : Rdr w R ao cap l i o) (j : Nat) : Rdr (w.setCell ⟨R, 2, none⟩ (.int .i64 (j : Int))) R ao cap l i j := by
 refine ⟨?_, rdk_but h.rd (fun k _ hk => Below.heap_setCell _ _ _ _ hk) (fun b off e => Nat.ne_of_lt (h.lo b off e)), h.lo⟩
 simp [World.setCell, Array.getElem?_modify, h.box]
theorem Rdr.but {w W : World} {R x : Nat} {ao : Option Addr} {cap : Nat} {l : List (X.Tk × Nat)} {i o : Nat} (h : Rdr w R ao cap l i o) (hs : ∀ k, k < w.heap.size → k ≠ x → W.heap[k]? = w.heap[k]?) (hx : R < x) : Rdr W R ao cap l i o :=
 ⟨(hs R h.lt (by omega)).trans h.box, rdk_but h.rd hs (fun b off e => by have := h.lo b off e; omega), h.lo⟩
end Go.Proofs.YtemanednddhfaaaGreatDoor
namespace Go.Proofs.YtemanednddhfaaaGreatDoor
namespace E
abbrev Tok := X.Tk × Nat
abbrev Res := Except (Nat × Nat) (T × Nat)
abbrev Rs := List U.S.R
def tzz : Tok := (⟨0, [], 0⟩, 0)
def tk (l : List Tok) (i : Nat) : Tok := l.getD i tzz
def isS (t : Tok) (c : List UInt8) : Bool := decide (t.1.kind = 6) && t.1.text == c
def rpt (t : Tok) : Nat := if isS t [42] = true then 6 else if isS t [43] = true then 7 else if isS t [63] = true then 8 else 0
def beg (t : Tok) : Bool := decide (t.1.kind = 1) || (decide (t.1.kind = 4) || (decide (t.1.kind = 5) || (isS t [46] || (isS t [40] || isS t [91]))))
noncomputable def nL (xs : Rs) : Rs := if (xs.all U.S.good) = true ∧ (U.S.set xs).length ≤ 200 then U.S.set xs else []
noncomputable def nE (xs : Rs) : Nat := if (xs.all U.S.good) = true ∧ (U.S.set xs).length ≤ 200 then 0 else 30
def item (l : List Tok) (i : Nat) : Except (Nat × Nat) (Rs × Nat) :=
 if (tk l i).1.kind = 4 then
   if isS (tk l (i + 1)) [45] = true then
     if (tk l (i + 2)).1.kind = 4 then
       if (tk l i).1.r ≤ (tk l (i + 2)).1.r then .ok ([((tk l i).1.r, (tk l (i + 2)).1.r)], i + 3) else .error (30, i)
     else .error (70, i + 2)
   else .ok ([((tk l i).1.r, (tk l i).1.r)], i + 1)
 else if (tk l i).1.kind = 5 then
   if U.kn (tk l i).1.text = true then .ok (U.tl (tk l i).1.text, i + 1) else .error (50, i)
 else .error (70, i)
def items : Nat → List Tok → Nat → Rs → Except (Nat × Nat) (Rs × Nat)
 | 0, _, i, _ => .error (70, i)
 | n + 1, l, i, acc => if isS (tk l i) [93] = true then .ok (acc, i) else match item l i with
   | .error e => .error e
   | .ok (s, j) => items n l j (acc ++ s)
noncomputable def finS (nt : Bool) (acc : Rs) : Rs := if nE acc = 0 ∧ nt = true then nL (U.S.not (nL acc)) else nL acc
noncomputable def finE (nt : Bool) (acc : Rs) : Nat := if nE acc = 0 ∧ nt = true then nE (U.S.not (nL acc)) else nE acc
noncomputable def square (l : List Tok) (i : Nat) : Res :=
 match items (l.length + 1) l (if isS (tk l (i + 1)) [94] = true then i + 2 else i + 1) [] with
 | .error e => .error e
 | .ok (acc, j) => if finE (isS (tk l (i + 1)) [94]) acc = 0 then .ok (.mk 1 (tk l i).2 (finS (isS (tk l (i + 1)) [94]) acc) [] [], j + 1) else .error (30, j)
def round (A : Nat → Res) (dp : Bool) (l : List Tok) (i : Nat) : Res :=
 if dp = false then .error (71, i)
 else if isS (tk l (i + 1)) [41] = true then .ok (.mk 3 (tk l i).2 [] [] [], i + 2)
 else match A (i + 1) with
   | .error e => .error e
   | .ok (e, j) => if isS (tk l j) [41] = true then .ok (e, j + 1) else .error (70, j)
noncomputable def prim (A : Nat → Res) (dp : Bool) (l : List Tok) (i : Nat) : Res :=
 if (tk l i).1.kind = 1 then .ok (.mk 2 (tk l i).2 [] (tk l i).1.text [], i + 1)
 else if (tk l i).1.kind = 4 then .ok (.mk 1 (tk l i).2 [((tk l i).1.r, (tk l i).1.r)] [] [], i + 1)
 else if (tk l i).1.kind = 5 then
   if U.kn (tk l i).1.text = true then .ok (.mk 1 (tk l i).2 (U.tl (tk l i).1.text) [] [], i + 1) else .error (50, i)
 else if isS (tk l i) [46] = true then .ok (.mk 1 (tk l i).2 [(0, 1114111)] [] [], i + 1)
 else if isS (tk l i) [40] = true then round A dp l i
 else if isS (tk l i) [91] = true then square l i
 else .error (70, i)
def repL : Nat → List Tok → Nat → T → T × Nat
 | 0, _, i, t => (t, i)
 | n + 1, l, i, t => if rpt (tk l i) = 0 then (t, i) else repL n l (i + 1) (.mk (rpt (tk l i)) t.at_ [] [] [t])
def repF (P : Nat → Res) (l : List Tok) (i : Nat) : Res :=
 match P i with
 | .error e => .error e
 | .ok (t, j) => .ok (repL l.length l j t)
def catL (Q : Nat → Res) : Nat → List Tok → Nat → T → Res
 | 0, _, i, t => .ok (t, i)
 | n + 1, l, i, t => if beg (tk l i) = true then match Q i with
     | .error e => .error e
     | .ok (u, j) => catL Q n l j (.mk 4 t.at_ [] [] [t, u])
   else .ok (t, i)
def catF (Q : Nat → Res) (l : List Tok) (i : Nat) : Res :=
 match Q i with
 | .error e => .error e
 | .ok (t, j) => catL Q l.length l j t
def altL (Q : Nat → Res) : Nat → List Tok → Nat → T → Res
 | 0, _, i, t => .ok (t, i)
 | n + 1, l, i, t => if isS (tk l i) [124] = true then match Q (i + 1) with
     | .error e => .error e
     | .ok (u, j) => altL Q n l j (.mk 5 t.at_ [] [] [t, u])
   else .ok (t, i)
def altF (Q : Nat → Res) (l : List Tok) (i : Nat) : Res :=
 match Q i with
 | .error e => .error e
 | .ok (t, j) => altL Q l.length l j t
noncomputable def alt : Nat → List Tok → Nat → Res
 | 0, l, i => altF (catF (repF (prim (fun _ => .error (70, 0)) false l) l) l) l i
 | d + 1, l, i => altF (catF (repF (prim (alt d l) true l) l) l) l i
noncomputable def primD : Nat → List Tok → Nat → Res
 | 0, l => prim (fun _ => .error (70, 0)) false l
 | d + 1, l => prim (alt d l) true l
noncomputable def repD (d : Nat) (l : List Tok) : Nat → Res := repF (primD d l) l
noncomputable def catD (d : Nat) (l : List Tok) : Nat → Res := catF (repD d l) l
theorem alt_eq (d : Nat) (l : List Tok) (i : Nat) : alt d l i = altF (catD d l) l i := by cases d <;> rfl
noncomputable def roundD : Nat → List Tok → Nat → Res
 | 0, l => round (fun _ => .error (70, 0)) false l
 | d + 1, l => round (alt d l) true l
theorem primD_eq (d : Nat) (l : List Tok) (i : Nat) : primD d l i =
  if (tk l i).1.kind = 1 then .ok (.mk 2 (tk l i).2 [] (tk l i).1.text [], i + 1)
  else if (tk l i).1.kind = 4 then .ok (.mk 1 (tk l i).2 [((tk l i).1.r, (tk l i).1.r)] [] [], i + 1)
  else if (tk l i).1.kind = 5 then
    if U.kn (tk l i).1.text = true then .ok (.mk 1 (tk l i).2 (U.tl (tk l i).1.text) [] [], i + 1) else .error (50, i)
  else if isS (tk l i) [46] = true then .ok (.mk 1 (tk l i).2 [(0, 1114111)] [] [], i + 1)
  else if isS (tk l i) [40] = true then roundD d l i
  else if isS (tk l i) [91] = true then square l i
  else .error (70, i) := by cases d <;> rfl
def Good (l : List Tok) : Prop := ∀ x ∈ l, (0 ≤ x.1.r ∧ x.1.r ≤ 1114111 ∧ x.1.text.length ≤ 100000) ∧ x.1.kind ≠ 5 ∧ isS x [91] = false ∧ isS x [46] = false
theorem tk_lt {l : List Tok} {i : Nat} (h : (tk l i).1.kind ≠ 0) : i < l.length := by
 apply Decidable.byContradiction
 intro hn
 apply h
 rw [tk, List.getD_eq_getElem?_getD, List.getElem?_eq_none (by omega)]
 rfl
theorem isS_lt {l : List Tok} {i : Nat} {c : List UInt8} (h : isS (tk l i) c = true) : i < l.length := by
 apply tk_lt
 intro h0
 simp [isS, h0] at h
theorem tk_good {l : List Tok} (hg : Good l) (i : Nat) : 0 ≤ (tk l i).1.r ∧ (tk l i).1.r ≤ 1114111 ∧ (tk l i).1.text.length ≤ 100000 := by
 by_cases h : i < l.length
 · have e : tk l i = l[i] := by rw [tk, List.getD_eq_getElem?_getD, List.getElem?_eq_getElem h]; rfl
   rw [e]
   exact (hg _ (List.getElem_mem h)).1
 · rw [tk, List.getD_eq_getElem?_getD, List.getElem?_eq_none (by omega)]
   decide
theorem tk_light {l : List Tok} (hg : Good l) (i : Nat) : (tk l i).1.kind ≠ 5 ∧ isS (tk l i) [91] = false ∧ isS (tk l i) [46] = false := by
 by_cases h : i < l.length
 · have e : tk l i = l[i] := by rw [tk, List.getD_eq_getElem?_getD, List.getElem?_eq_getElem h]; rfl
   rw [e]
   exact (hg _ (List.getElem_mem h)).2
 · rw [tk, List.getD_eq_getElem?_getD, List.getElem?_eq_none (by omega)]
   decide
theorem rpt_lt {l : List Tok} {i : Nat} (h : rpt (tk l i) ≠ 0) : i < l.length := by
 unfold rpt at h
 split at h
 · rename_i q; exact isS_lt q
 · split at h
   · rename_i q; exact isS_lt q
   · split at h
     · rename_i q; exact isS_lt q
     · exact absurd rfl h
theorem beg_lt {l : List Tok} {i : Nat} (h : beg (tk l i) = true) : i < l.length := by
 simp only [beg, Bool.or_eq_true, decide_eq_true_eq] at h
 rcases h with h | h | h | h | h | h
 · exact tk_lt (by omega)
 · exact tk_lt (by omega)
 · exact tk_lt (by omega)
 all_goals exact isS_lt h
theorem len_ite {c : Prop} [Decidable c] {a b : Rs} {n : Nat} (h1 : a.length ≤ n) (h2 : b.length ≤ n) : (if c then a else b).length ≤ n := by
 split
 · exact h1
 · exact h2
theorem tl_len (s : List UInt8) : (U.tl s).length ≤ 8 := by
 unfold U.tl
 repeat' apply len_ite
 all_goals decide
theorem item_far {l : List Tok} {i j : Nat} {s : Rs} (h : item l i = .ok (s, j)) : i < j ∧ j ≤ l.length ∧ s.length ≤ 8 := by
 unfold item at h
 split at h
 · rename_i h4
   split at h
   · split at h
     · split at h
       · cases h
         rename_i q _
         exact ⟨by omega, tk_lt (i := i + 2) (by omega), by simp⟩
       · cases h
     · cases h
   · cases h
     exact ⟨by omega, tk_lt (by omega), by simp⟩
 · split at h
   · split at h
     · cases h
       refine ⟨by omega, tk_lt (by omega), ?_⟩
       exact tl_len _
     · cases h
   · cases h
theorem items_far : ∀ (n : Nat) {l : List Tok} {i j : Nat} {acc s : Rs}, items n l i acc = .ok (s, j) → i ≤ j ∧ j < l.length ∧ isS (tk l j) [93] = true ∧ s.length ≤ acc.length + 8 * (j - i)
 | 0, _, _, _, _, _, h => by cases h
 | n + 1, l, i, j, acc, s, h => by
   unfold items at h
   split at h
   · cases h
     rename_i q
     exact ⟨Nat.le_refl _, isS_lt q, q, by omega⟩
   · cases hi : item l i with
     | error e => rw [hi] at h; cases h
     | ok p =>
       obtain ⟨u, k⟩ := p
       rw [hi] at h
       have h1 := item_far hi
       have h2 := items_far n h
       rw [List.length_append] at h2
       exact ⟨by omega, h2.2.1, h2.2.2.1, by omega⟩
theorem square_far {l : List Tok} {i j : Nat} {t : T} (h : square l i = .ok (t, j)) : i < j ∧ j ≤ l.length := by
 unfold square at h
 split at h
 · cases h
 · rename_i acc k hk
   have h1 := items_far _ hk
   split at h
   · cases h
     constructor
     · have := h1.1
       split at this <;> omega
     · omega
   · cases h
def Far (l : List Tok) (A : Nat → Res) : Prop := ∀ i t j, A i = .ok (t, j) → i < j ∧ j ≤ l.length
theorem round_far {A : Nat → Res} {dp : Bool} {l : List Tok} (hA : Far l A) : Far l (round A dp l) := by
 intro i t j h
 unfold round at h
 split at h
 · cases h
 · split at h
   · cases h
     rename_i q
     have := isS_lt q
     omega
   · split at h
     · cases h
     · rename_i e k hk
       have h1 := hA _ _ _ hk
       split at h
       · cases h
         rename_i q
         have := isS_lt q
         omega
       · cases h
theorem prim_far {A : Nat → Res} {dp : Bool} {l : List Tok} (hA : Far l A) : Far l (prim A dp l) := by
 intro i t j h
 unfold prim at h
 split at h
 · rename_i q
   cases h
   exact ⟨by omega, tk_lt (by omega)⟩
 · split at h
   · rename_i q
     cases h
     exact ⟨by omega, tk_lt (by omega)⟩
   · split at h
     · rename_i q
       split at h
       · cases h
         exact ⟨by omega, tk_lt (by omega)⟩
       · cases h
     · split at h
       · rename_i q
         cases h
         exact ⟨by omega, isS_lt q⟩
       · split at h
         · exact round_far hA _ _ _ h
         · split at h
           · exact square_far h
           · cases h
theorem repL_far : ∀ (n : Nat) (l : List Tok) (i : Nat) (t : T), i ≤ (repL n l i t).2 ∧ (i ≤ l.length → (repL n l i t).2 ≤ l.length)
 | 0, l, i, t => ⟨Nat.le_refl _, fun h => h⟩
 | n + 1, l, i, t => by
   unfold repL
   split
   · exact ⟨Nat.le_refl _, fun h => h⟩
   · rename_i q
     have h1 := repL_far n l (i + 1) (.mk (rpt (tk l i)) t.at_ [] [] [t])
     have h2 := rpt_lt q
     exact ⟨by omega, fun _ => h1.2 (by omega)⟩
theorem repF_far {P : Nat → Res} {l : List Tok} (hP : Far l P) : Far l (repF P l) := by
 intro i t j h
 unfold repF at h
 split at h
 · cases h
 · rename_i u k hk
   have h1 := hP _ _ _ hk
   have h2 := repL_far l.length l k u
   have h3 : repL l.length l k u = (t, j) := by injection h
   rw [h3] at h2
   exact ⟨by omega, h2.2 h1.2⟩
theorem catL_far {Q : Nat → Res} {l : List Tok} (hQ : Far l Q) : ∀ (n : Nat) (i : Nat) (t u : T) (j : Nat), i ≤ l.length → catL Q n l i t = .ok (u, j) → i ≤ j ∧ j ≤ l.length
 | 0, i, t, u, j, hi, h => by unfold catL at h; cases h; exact ⟨Nat.le_refl _, hi⟩
 | n + 1, i, t, u, j, hi, h => by
   unfold catL at h
   split at h
   · split at h
     · cases h
     · rename_i x k hk
       have h1 := hQ _ _ _ hk
       have h2 := catL_far hQ n k _ u j h1.2 h
       exact ⟨by omega, h2.2⟩
   · cases h; exact ⟨Nat.le_refl _, hi⟩
theorem catF_far {Q : Nat → Res} {l : List Tok} (hQ : Far l Q) : Far l (catF Q l) := by
 intro i t j h
 unfold catF at h
 split at h
 · cases h
 · rename_i x k hk
   have h1 := hQ _ _ _ hk
   have h2 := catL_far hQ _ k _ t j h1.2 h
   exact ⟨by omega, h2.2⟩
theorem altL_far {Q : Nat → Res} {l : List Tok} (hQ : Far l Q) : ∀ (n : Nat) (i : Nat) (t u : T) (j : Nat), i ≤ l.length → altL Q n l i t = .ok (u, j) → i ≤ j ∧ j ≤ l.length
 | 0, i, t, u, j, hi, h => by unfold altL at h; cases h; exact ⟨Nat.le_refl _, hi⟩
 | n + 1, i, t, u, j, hi, h => by
   unfold altL at h
   split at h
   · split at h
     · cases h
     · rename_i x k hk
       have h1 := hQ _ _ _ hk
       have h2 := altL_far hQ n k _ u j h1.2 h
       exact ⟨by omega, h2.2⟩
   · cases h; exact ⟨Nat.le_refl _, hi⟩
theorem altF_far {Q : Nat → Res} {l : List Tok} (hQ : Far l Q) : Far l (altF Q l) := by
 intro i t j h
 unfold altF at h
 split at h
 · cases h
 · rename_i x k hk
   have h1 := hQ _ _ _ hk
   have h2 := altL_far hQ _ k _ t j h1.2 h
   exact ⟨by omega, h2.2⟩
theorem alt_far (l : List Tok) : ∀ d, Far l (alt d l)
 | 0 => fun i t j h => altF_far (catF_far (repF_far (prim_far (fun _ _ _ h => by cases h)))) i t j h
 | d + 1 => fun i t j h => altF_far (catF_far (repF_far (prim_far (alt_far l d)))) i t j h
theorem primD_far (l : List Tok) : ∀ d, Far l (primD d l)
 | 0 => fun i t j h => prim_far (fun _ _ _ h => by cases h) i t j h
 | d + 1 => fun i t j h => prim_far (alt_far l d) i t j h
theorem repD_far (l : List Tok) (d : Nat) : Far l (repD d l) := repF_far (primD_far l d)
theorem catD_far (l : List Tok) (d : Nat) : Far l (catD d l) := catF_far (repD_far l d)
end E
end Go.Proofs.YtemanednddhfaaaGreatDoor
namespace Go.Proofs.YtemanednddhfaaaGreatDoor
open Go.RowKit
theorem Reg.onlyS {P : Program} {ops : Array Oper} {Q : Exit → Act → World → Prop} {a : Act} {B fuel : Nat} {ks : List Nat} {l : List (Nat × Value)} {w : World} (i : Nat) (o : Oper) (hi : ops[i]? = some o) (hr : Region.ready .any ops (Reg.lst ops.size ks) = [i]) (hd : o.dst = none) (hb : Reg.inB a l = true) (hw : Reg.wantB ops a l o = true)
   (h : ∃ w' B', (execOp (Reg.ev a l) o).run P w = .ok .skip w' ∧ B ≤ B' ∧ Below B w w' ∧ Reg.G P ops Q a B' fuel (i :: ks) l w') : Reg.G P ops Q a B (fuel + 1) ks l w := by
 obtain ⟨w', B', hrun, hBB, hbl, hg⟩ := h
 refine wpAnyH_all hr (by simp) fun j hj => ?_
 obtain rfl : j = i := by simpa using hj
 unfold wpOp
 simp only [hi]
 rw [if_pos (Reg.wanted_of ops a l o hb hw)]
 refine .inl ?_
 unfold Oper.wp
 rw [Reg.ov_eval a l hb, hrun]
 simp only [Oper.upon, hd]
 exact ⟨hbl, Reg.mono_held (fun x hx => hbl.trans (hx.mono hBB)) _ _ _ _ hg⟩
theorem Reg.ldS {P : Program} {w : World} {ρ : Operand → Value} {o : Oper} {ty : TypeId} {x : Operand} {a : Addr} {v : Value} (hop : o.op = .load ty x) (hx : ρ x = .pointer (some a)) (hc : w.cell? a = some v) (hagg : (isAgg ty).run P w = .ok false w) : (execOp ρ o).run P w = .ok (.value v) w := by
 obtain ⟨dst, op, type, pos, after, guard⟩ := o
 simp only at hop
 subst hop
 simp [execOp, hx, Instr.loadAt, Instr.sureAddr, loadVar, Sem.run_bind, hc, hagg, Result.andThen, go_sem]
def putT (w : World) (b : Nat) (a c : Int) (s : ByteArray) (r : Int) : World := (((w.setCell ⟨b, 0, none⟩ (.int .i64 a)).setCell ⟨b, 1, none⟩ (.int .i64 c)).setCell ⟨b, 2, none⟩ (.string s)).setCell ⟨b, 3, none⟩ (.int .i32 r)
theorem Reg.stT {w : World} {ρ : Operand → Value} {o : Oper} {x y : Operand} {b : Nat} {a c r : Int} {s : ByteArray} {u0 u1 u2 u3 : Value} (hop : o.op = .store 79 x y) (hx : ρ x = .pointer (some ⟨b, 0, none⟩)) (hy : ρ y = .agg #[.int .i64 a, .int .i64 c, .string s, .int .i32 r]) (h : w.heap[b]? = some (.cells #[u0, u1, u2, u3] 79)) : (execOp ρ o).run Tryz.prog w = .ok .skip (putT w b a c s r) := by
 obtain ⟨dst, op, type, pos, after, guard⟩ := o
 simp only at hop
 subst hop
 have hc : ∀ j, j < 4 → ∃ u, w.cell? ⟨b, j, none⟩ = some u ∧ w.frozen? ⟨b, j, none⟩ = false := by
   intro j hj
   match j, hj with
   | 0, _ => exact ⟨u0, by simp [World.cell?, h], by simp [World.frozen?, h]⟩
   | 1, _ => exact ⟨u1, by simp [World.cell?, h], by simp [World.frozen?, h]⟩
   | 2, _ => exact ⟨u2, by simp [World.cell?, h], by simp [World.frozen?, h]⟩
   | 3, _ => exact ⟨u3, by simp [World.cell?, h], by simp [World.frozen?, h]⟩
 obtain ⟨v0, c0, f0⟩ := hc 0 (by omega)
 obtain ⟨v1, c1, f1⟩ := hc 1 (by omega)
 obtain ⟨v2, c2, f2⟩ := hc 2 (by omega)
 obtain ⟨v3, c3, f3⟩ := hc 3 (by omega)
 have hsz := Tryz.sizeOf79 w
 simp [execOp, hx, hy, Instr.storeAt, Instr.sureAddr, storeVar, Sem.run_bind, hsz, Result.andThen, go_sem, c0, c1, c2, c3, f0, f1, f2, f3]
 rfl
theorem putT_box {w : World} {b : Nat} {a c r : Int} {s : ByteArray} {u0 u1 u2 u3 : Value} (h : w.heap[b]? = some (.cells #[u0, u1, u2, u3] 79)) : (putT w b a c s r).heap[b]? = some (.cells #[.int .i64 a, .int .i64 c, .string s, .int .i32 r] 79) := by
 simp [putT, World.setCell, Array.getElem?_modify, h]
theorem putT_below {n : Nat} {w0 w : World} {b : Nat} {a c r : Int} {s : ByteArray} (h : Below n w0 w) (hb : n ≤ b) : Below n w0 (putT w b a c s r) :=
 ((((h.setCell (p := ⟨b, 0, none⟩) hb _).setCell (p := ⟨b, 1, none⟩) hb _).setCell (p := ⟨b, 2, none⟩) hb _).setCell (p := ⟨b, 3, none⟩) hb _)
def putN (w : World) (b : Nat) (v0 v1 v2 v3 v4 : Value) : World := ((((w.setCell ⟨b, 0, none⟩ v0).setCell ⟨b, 1, none⟩ v1).setCell ⟨b, 2, none⟩ v2).setCell ⟨b, 3, none⟩ v3).setCell ⟨b, 4, none⟩ v4
theorem putN_box {w : World} {b : Nat} {v0 v1 v2 v3 v4 u0 u1 u2 u3 u4 : Value} {t : TypeId} (h : w.heap[b]? = some (.cells #[u0, u1, u2, u3, u4] t)) : (putN w b v0 v1 v2 v3 v4).heap[b]? = some (.cells #[v0, v1, v2, v3, v4] t) := by
 simp [putN, World.setCell, Array.getElem?_modify, h]
theorem putN_other {w : World} {b k : Nat} {v0 v1 v2 v3 v4 : Value} (h : k ≠ b) : (putN w b v0 v1 v2 v3 v4).heap[k]? = w.heap[k]? := by
 unfold putN
 rw [Below.heap_setCell _ _ _ _ h, Below.heap_setCell _ _ _ _ h, Below.heap_setCell _ _ _ _ h, Below.heap_setCell _ _ _ _ h, Below.heap_setCell _ _ _ _ h]
theorem putN_size (w : World) (b : Nat) (v0 v1 v2 v3 v4 : Value) : (putN w b v0 v1 v2 v3 v4).heap.size = w.heap.size := by simp [putN, World.setCell]
theorem putN_below {n : Nat} {w0 w : World} {b : Nat} {v0 v1 v2 v3 v4 : Value} (h : Below n w0 w) (hb : n ≤ b) : Below n w0 (putN w b v0 v1 v2 v3 v4) :=
 (((((h.setCell (p := ⟨b, 0, none⟩) hb _).setCell (p := ⟨b, 1, none⟩) hb _).setCell (p := ⟨b, 2, none⟩) hb _).setCell (p := ⟨b, 3, none⟩) hb _).setCell (p := ⟨b, 4, none⟩) hb _)
theorem putN_kp {n x : Nat} {w0 w : World} {b : Nat} {v0 v1 v2 v3 v4 : Value} (h : Kp n x w0 w) (hb : n ≤ b) : Kp n x w0 (putN w b v0 v1 v2 v3 v4) :=
 (((((h.set (p := ⟨b, 0, none⟩) (.inr hb) _).set (p := ⟨b, 1, none⟩) (.inr hb) _).set (p := ⟨b, 2, none⟩) (.inr hb) _).set (p := ⟨b, 3, none⟩) (.inr hb) _).set (p := ⟨b, 4, none⟩) (.inr hb) _)
theorem cells_five {W : World} {k : Nat} {u v x y z : Value} {t : TypeId} (h : W.heap[k]? = some (.cells #[u, v, x, y, z] t)) : W.cell? ⟨k, 0, none⟩ = some u ∧ W.cell? ⟨k, 1, none⟩ = some v ∧ W.cell? ⟨k, 2, none⟩ = some x ∧ W.cell? ⟨k, 3, none⟩ = some y ∧ W.cell? ⟨k, 4, none⟩ = some z := by
 simp [World.cell?, h]
theorem Reg.stN {w : World} {ρ : Operand → Value} {o : Oper} {x y : Operand} {b : Nat} {a c : Int} {s : ByteArray} {sp kp : Option Addr} {sl sc kl kc : Nat} {u0 u1 u2 u3 u4 : Value} (hop : o.op = .store 26 x y) (hx : ρ x = .pointer (some ⟨b, 0, none⟩)) (hy : ρ y = .agg #[.int .i64 a, .int .i64 c, .slice sp sl sc, .string s, .slice kp kl kc]) (h : w.heap[b]? = some (.cells #[u0, u1, u2, u3, u4] 26)) : (execOp ρ o).run Tryz.prog w = .ok .skip (putN w b (.int .i64 a) (.int .i64 c) (.slice sp sl sc) (.string s) (.slice kp kl kc)) := by
 obtain ⟨dst, op, type, pos, after, guard⟩ := o
 simp only at hop
 subst hop
 obtain ⟨c0, c1, c2, c3, c4⟩ := cells_five h
 have f : ∀ j, w.frozen? ⟨b, j, none⟩ = false := fun j => by simp [World.frozen?, h]
 have hsz := Tryz.sizeOf26 w
 simp [execOp, hx, hy, Instr.storeAt, Instr.sureAddr, storeVar, Sem.run_bind, hsz, Result.andThen, go_sem, c0, c1, c2, c3, c4, f]
 rfl
theorem Reg.ldN {w : World} {ρ : Operand → Value} {o : Oper} {x : Operand} {b : Nat} {u0 u1 u2 u3 u4 : Value} {t : TypeId} (hop : o.op = .load 26 x) (hx : ρ x = .pointer (some ⟨b, 0, none⟩)) (h : w.heap[b]? = some (.cells #[u0, u1, u2, u3, u4] t)) : (execOp ρ o).run Tryz.prog w = .ok (.value (.agg #[u0, u1, u2, u3, u4])) w := by
 obtain ⟨dst, op, type, pos, after, guard⟩ := o
 simp only at hop
 subst hop
 obtain ⟨c0, c1, c2, c3, c4⟩ := cells_five h
 have hsz := Tryz.sizeOf26 w
 have hag := Tryz.isAgg26 w
 simp [execOp, hx, Instr.loadAt, Instr.sureAddr, loadVar, Sem.run_bind, hsz, hag, Result.andThen, go_sem, c0, c1, c2, c3, c4]
theorem Rdr.putN {w : World} {R x : Nat} {ao : Option Addr} {cap : Nat} {l : List (X.Tk × Nat)} {i o : Nat} (h : Rdr w R ao cap l i o) (hx : R < x) (v0 v1 v2 v3 v4 : Value) : Rdr (putN w x v0 v1 v2 v3 v4) R ao cap l i o :=
 h.but (fun _ _ hk => putN_other hk) hx
end Go.Proofs.YtemanednddhfaaaGreatDoor
namespace Go.Proofs.YtemanednddhfaaaGreatDoor
open Go.RowKit
open E (T tk isS rpt beg)
theorem elemSize74k (w : World) : (sizeOf (Tryz.prog.elem 74)).run Tryz.prog w = .ok 4 w := by kernel_rfl
theorem tk_in {l : List E.Tok} {i : Nat} (h : i < l.length) : tk l i = l[i] := by rw [E.tk, List.getD_eq_getElem?_getD, List.getElem?_eq_getElem h]; rfl
theorem tk_out {l : List E.Tok} {i : Nat} (h : l.length ≤ i) : tk l i = E.tzz := by rw [E.tk, List.getD_eq_getElem?_getD, List.getElem?_eq_none h]; rfl
set_option maxHeartbeats 1000000 in
theorem signAt_any (ao : Option Addr) (cap : Nat) (l : List E.Tok) (i : Nat) (w : World) (hr : RdK w ao l) :
   Calls Tryz.prog 45 #[.slice ao l.length cap, .int .i64 (i : Int)] w fun e w' => e = .returned (tokV (tk l i).1 (tk l i).2) ∧ Below w.heap.size w w' := by
 by_cases h : i < l.length
 · obtain ⟨b, off, rfl, c0, c1, c2, c3⟩ := hr i h
   rw [tk_in h]
   have hix := elemSize74k
   have hlt : b < w.heap.size := U.cell_lt c0
   obtain ⟨t, ht⟩ : ∃ t, l[i] = t := ⟨_, rfl⟩
   rw [ht] at c0 c1 c2 c3 ⊢
   clear ht hr
   have e1 : decide ((i : Int) < 0) = false := by simp
   have e2 : decide ((l.length : Int) ≤ (i : Int)) = false := by simp; omega
   go_enter Tryz.func45, Tryz.ntmps45
   go_wp2
   exact bodyPost_ret (v := tokV t.1 t.2) (by unfold tokV; simp [results, Tryz.results45, go_sem]) rfl ⟨rfl, al1 w _⟩
 · rw [tk_out (by omega)]
   have e1 : decide ((i : Int) < 0) = false := by simp
   have e2 : decide ((l.length : Int) ≤ (i : Int)) = true := by simp; omega
   go_enter Tryz.func45, Tryz.ntmps45
   go_wp2
   exact bodyPost_ret (v := tokV tz 0) (by unfold tokV; simp [results, Tryz.results45, go_sem, tz]) rfl ⟨rfl, al1 w _⟩
set_option maxHeartbeats 1000000 in
theorem isSign_any (t : E.Tok) (c : List UInt8) (w : World) : Calls Tryz.prog 137 #[tokV t.1 t.2, .string ⟨c.toArray⟩] w fun e w' => e = .returned (.bool (isS t c)) ∧ Below w.heap.size w w' := by
 unfold tokV E.isS
 have hq : ((⟨t.1.text.toArray⟩ : ByteArray).toList == (⟨c.toArray⟩ : ByteArray).toList) = (t.1.text == c) := by
   rw [ByteArray.toList_eq, ByteArray.toList_eq]
 by_cases hk : t.1.kind = 6
 · have e1 : ((t.1.kind : Int) == 6) = true := by simp [hk]
   rw [decide_eq_true hk, Bool.true_and]
   clear hk hq
   go_enter Tryz.func137, Tryz.ntmps137
   go_wp2
   go_ret
   exact ⟨rfl, al1 w _⟩
 · have e1 : ((t.1.kind : Int) == 6) = false := by simp; omega
   rw [decide_eq_false hk, Bool.false_and]
   clear hk hq
   go_enter Tryz.func137, Tryz.ntmps137
   go_wp2
   go_ret
   exact ⟨rfl, al1 w _⟩
set_option maxRecDepth 100000 in
set_option maxHeartbeats 1000000 in
theorem next_any {w : World} {R : Nat} {ao : Option Addr} {cap : Nat} {l : List E.Tok} {i o : Nat} (h : Rdr w R ao cap l i o) :
   Calls Tryz.prog 136 #[.pointer (some ⟨R, 0, none⟩)] w fun e w' => e = .returned (tokV (tk l i).1 (tk l i).2) ∧ Below w.heap.size w w' := by
 have h1 := h.later (al1 w (.cells #[.int .i64 0, .int .i64 0, .string ⟨#[]⟩, .int .i32 0] 79))
 obtain ⟨W, hW⟩ : ∃ W, w.alloc (.cells #[.int .i64 0, .int .i64 0, .string ⟨#[]⟩, .int .i32 0] 79) = W := ⟨_, rfl⟩
 have hbx : W.heap[w.heap.size]? = some (.cells #[.int .i64 0, .int .i64 0, .string ⟨#[]⟩, .int .i32 0] 79) := by rw [← hW]; exact heap_alloc_new w _
 have hbw : Below w.heap.size w W := by rw [← hW]; exact al1 w _
 have hsz : W.heap.size = w.heap.size + 1 := by rw [← hW]; simp
 rw [hW] at h1
 have hc := signAt_any ao cap l i W.drew h1.rd
 obtain ⟨c0, c1, c2⟩ := h1.cells
 generalize tk l i = t at *
 have HZ := hide hsz
 clear hsz
 go_enter Tryz.func136, Tryz.ntmps136
 go_wp2_with fail
 refine Reg.start (B := w.heap.size) (by kernel_rfl) ?_
 refine Reg.take (fun _ _ _ _ _ h => h) 0 _ 3 (.pointer (some ⟨R, 0, none⟩)) rfl (by kernel_rfl) (by kernel_rfl) (by kernel_rfl) rfl (by kernel_rfl) (by kernel_rfl) (fun wx hb => by kernel_rfl) ?_
 refine Reg.take (fun _ _ _ _ _ h => h) 1 _ 4 (.pointer (some ⟨R, 0, none⟩)) rfl (by kernel_rfl) (by kernel_rfl) (by kernel_rfl) rfl (by kernel_rfl) (by kernel_rfl) (fun wx hb => by kernel_rfl) ?_
 refine Reg.take (fun _ _ _ _ _ h => h) 2 _ 5 (.pointer (some ⟨R, 0, none⟩)) rfl (by kernel_rfl) (by kernel_rfl) (by kernel_rfl) rfl (by kernel_rfl) (by kernel_rfl) (fun wx hb => by kernel_rfl) ?_
 refine Reg.take (fun _ _ _ _ _ h => h) 3 _ 6 (.slice ao l.length cap) rfl (by kernel_rfl) (by kernel_rfl) (by kernel_rfl) rfl (by kernel_rfl) (by kernel_rfl) (fun wx hb => Reg.ldS rfl (by kernel_rfl) ((hb.cell h.lt).trans c0) (Tryz.isAgg74 _)) ?_
 refine Reg.take (fun _ _ _ _ _ h => h) 4 _ 7 (.pointer (some ⟨R, 0, none⟩)) rfl (by kernel_rfl) (by kernel_rfl) (by kernel_rfl) rfl (by kernel_rfl) (by kernel_rfl) (fun wx hb => by kernel_rfl) ?_
 refine Reg.take (fun _ _ _ _ _ h => h) 5 _ 8 (.pointer (some ⟨R, 0, none⟩)) rfl (by kernel_rfl) (by kernel_rfl) (by kernel_rfl) rfl (by kernel_rfl) (by kernel_rfl) (fun wx hb => by kernel_rfl) ?_
 refine Reg.take (fun _ _ _ _ _ h => h) 6 _ 9 (.pointer (some ⟨R, 1, none⟩)) rfl (by kernel_rfl) (by kernel_rfl) (by kernel_rfl) rfl (by kernel_rfl) (by kernel_rfl) (fun wx hb => by kernel_rfl) ?_
 refine Reg.take (fun _ _ _ _ _ h => h) 7 _ 10 (.int .i64 (i : Int)) rfl (by kernel_rfl) (by kernel_rfl) (by kernel_rfl) rfl (by kernel_rfl) (by kernel_rfl) (fun wx hb => Reg.ldS rfl (by kernel_rfl) ((hb.cell h.lt).trans c1) (Tryz.isAgg3 _)) ?_
 refine Reg.call 8 _ 11 45 _ _ #[.slice ao l.length cap, .int .i64 (i : Int)] rfl (by kernel_rfl) rfl (by kernel_rfl) (by kernel_rfl) rfl (by kernel_rfl) (by kernel_rfl) hc ?_
 rintro e w2 ⟨rfl, hb2⟩
 have hb3 : Below w.heap.size w w2 := hbw.drew.trans (hb2.mono hbw.size)
 have hbx2 := (hb2.block w.heap.size (by have := HZ.out; simp; omega)).trans hbx
 refine ⟨_, w.heap.size, rfl, Nat.le_refl _, hb2.mono hbw.size, ?_⟩
 refine Reg.onlyS 9 _ rfl (by kernel_rfl) rfl (by kernel_rfl) (by kernel_rfl) ⟨_, w.heap.size, Reg.stT rfl rfl rfl hbx2, Nat.le_refl _, putT_below (Below.refl _ _) (Nat.le_refl _), ?_⟩
 refine Reg.done (by kernel_rfl) ?_
 simp only [Reg.ov, Act.put, List.setIfInBounds_toArray, List.set_cons_succ, List.set_cons_zero]
 obtain ⟨d0, d1, d2, d3⟩ := cells_four (putT_box (a := (t.1.kind : Int)) (c := (t.2 : Int)) (s := ⟨t.1.text.toArray⟩) (r := t.1.r) hbx2)
 go_wp2
 exact bodyPost_ret (v := tokV t.1 t.2) (by unfold tokV; simp [results, Tryz.results136, go_sem, d0, d1, d2, d3]) rfl ⟨rfl, putT_below hb3 (Nat.le_refl _)⟩
end Go.Proofs.YtemanednddhfaaaGreatDoor
