/- Joined: Tre Pla. -/
import Derived.Test.YtgngaldoemopjaaGreatDoorFRk0
import Derived.Test.YtgngaldoemopjaaGreatDoorFJB
import Derived.Lib.TrailingZeros
namespace Go.Proofs.YtgngaldoemopjaaGreatDoor
open Go.RowKit
namespace E
inductive T where
 | mk (k a : Int) (s : List U.S.R) (n : List UInt8) (ks : List T)
def T.kind : T → Int | .mk k _ _ _ _ => k
def T.at_ : T → Int | .mk _ a _ _ _ => a
def T.set : T → List U.S.R | .mk _ _ s _ _ => s
def T.name : T → List UInt8 | .mk _ _ _ n _ => n
def T.kids : T → List T | .mk _ _ _ _ ks => ks
end E
open E (T)
def Cells5 (w : World) (b o : Nat) (v : Value) : Prop := ∃ c0 c1 c2 c3 c4, v = .agg #[c0, c1, c2, c3, c4] ∧ w.cell? ⟨b, o, none⟩ = some c0 ∧ w.cell? ⟨b, o + 1, none⟩ = some c1 ∧ w.cell? ⟨b, o + 2, none⟩ = some c2 ∧ w.cell? ⟨b, o + 3, none⟩ = some c3 ∧ w.cell? ⟨b, o + 4, none⟩ = some c4
mutual
def TR (w : World) (ok : Nat → Prop) : T → Value → Prop
 | .mk k a s n ks, v => ∃ sp sc kp kc, v = .agg #[.int .i64 k, .int .i64 a, .slice sp s.length sc, .string ⟨n.toArray⟩, .slice kp ks.length kc] ∧ U.RdR w sp s ∧ ks.length ≤ kc ∧ KR w ok ks kp 0
def KR (w : World) (ok : Nat → Prop) : List T → Option Addr → Nat → Prop
 | [], _, _ => True
 | t :: ts, kp, i => (∃ b off v, kp = some ⟨b, off, none⟩ ∧ ok b ∧ TR w ok t v ∧ Cells5 w b (off + i * 5) v) ∧ KR w ok ts kp (i + 1)
end
def NoI (w : World) (b : Nat) : Prop := ∀ off z, w.cell? ⟨b, off, none⟩ ≠ some (.int .i32 z)
def notI : Value → Bool | .int .i32 _ => false | _ => true
theorem noI_cells {w : World} {b : Nat} {cs : List Value} {t : TypeId} {f : Nat × Nat} (h : w.heap[b]? = some (.cells cs.toArray t f)) (hc : cs.all notI = true) : NoI w b := by
 intro off z hz
 simp only [World.cell?, h, List.getElem?_toArray] at hz
 have := List.all_eq_true.1 hc _ (List.mem_of_getElem? hz)
 simp [notI] at this
theorem cells5_same {w W : World} {b o : Nat} {v : Value} (h : Cells5 w b o v) (hs : W.heap[b]? = w.heap[b]?) : Cells5 W b o v := by
 obtain ⟨c0, c1, c2, c3, c4, e, h0, h1, h2, h3, h4⟩ := h
 have k : ∀ j, W.cell? ⟨b, j, none⟩ = w.cell? ⟨b, j, none⟩ := fun j => World.cell?_of_block (w := w) (a := ⟨b, j, none⟩) hs
 exact ⟨c0, c1, c2, c3, c4, e, by rw [k]; exact h0, by rw [k]; exact h1, by rw [k]; exact h2, by rw [k]; exact h3, by rw [k]; exact h4⟩
theorem cells5_lt {w : World} {b o : Nat} {v : Value} (h : Cells5 w b o v) : b < w.heap.size := by
 obtain ⟨c0, _, _, _, _, _, h0, _⟩ := h
 exact U.cell_lt h0
theorem rdr_but {w W : World} {sp : Option Addr} {s : List U.S.R} {x : Nat} (h : U.RdR w sp s) (hs : ∀ k, k < w.heap.size → k ≠ x → W.heap[k]? = w.heap[k]?) (hx : NoI w x) : U.RdR W sp s := fun i hi => by
 obtain ⟨b, off, e, h1, h2⟩ := h i hi
 have hb := U.cell_lt h1
 have hne : b ≠ x := by rintro rfl; exact hx _ _ h1
 have k : ∀ j, W.cell? ⟨b, j, none⟩ = w.cell? ⟨b, j, none⟩ := fun j => World.cell?_of_block (w := w) (a := ⟨b, j, none⟩) (hs b hb hne)
 exact ⟨b, off, e, by rw [k]; exact h1, by rw [k]; exact h2⟩
mutual
theorem TR.but {w W : World} {ok : Nat → Prop} {x : Nat} (hs : ∀ k, k < w.heap.size → k ≠ x → W.heap[k]? = w.heap[k]?) (hx : NoI w x) (hok : ¬ ok x) : ∀ (t : T) {v : Value}, TR w ok t v → TR W ok t v
 | .mk k a s n ks, v, h => by
   rw [TR] at h ⊢
   obtain ⟨sp, sc, kp, kc, e, h1, h2, h3⟩ := h
   exact ⟨sp, sc, kp, kc, e, rdr_but h1 hs hx, h2, KR.but hs hx hok ks h3⟩
theorem KR.but {w W : World} {ok : Nat → Prop} {x : Nat} (hs : ∀ k, k < w.heap.size → k ≠ x → W.heap[k]? = w.heap[k]?) (hx : NoI w x) (hok : ¬ ok x) : ∀ (ts : List T) {kp : Option Addr} {i : Nat}, KR w ok ts kp i → KR W ok ts kp i
 | [], kp, i, _ => by rw [KR]; trivial
 | t :: ts, kp, i, h => by
   rw [KR] at h ⊢
   obtain ⟨⟨b, off, v, e, h1, h2, h3⟩, h4⟩ := h
   exact ⟨⟨b, off, v, e, h1, TR.but hs hx hok t h2, cells5_same h3 (hs b (cells5_lt h3) (by rintro rfl; exact hok h1))⟩, KR.but hs hx hok ts h4⟩
end
mutual
theorem TR.mono {w : World} {ok ok' : Nat → Prop} (ho : ∀ b, b < w.heap.size → ok b → ok' b) : ∀ (t : T) {v : Value}, TR w ok t v → TR w ok' t v
 | .mk k a s n ks, v, h => by
   rw [TR] at h ⊢
   obtain ⟨sp, sc, kp, kc, e, h1, h2, h3⟩ := h
   exact ⟨sp, sc, kp, kc, e, h1, h2, KR.mono ho ks h3⟩
theorem KR.mono {w : World} {ok ok' : Nat → Prop} (ho : ∀ b, b < w.heap.size → ok b → ok' b) : ∀ (ts : List T) {kp : Option Addr} {i : Nat}, KR w ok ts kp i → KR w ok' ts kp i
 | [], kp, i, _ => by rw [KR]; trivial
 | t :: ts, kp, i, h => by
   rw [KR] at h ⊢
   obtain ⟨⟨b, off, v, e, h1, h2, h3⟩, h4⟩ := h
   exact ⟨⟨b, off, v, e, ho b (cells5_lt h3) h1, TR.mono ho t h2, h3⟩, KR.mono ho ts h4⟩
end
mutual
theorem TR.later {w W : World} {ok : Nat → Prop} (hs : ∀ k, k < w.heap.size → W.heap[k]? = w.heap[k]?) : ∀ (t : T) {v : Value}, TR w ok t v → TR W ok t v
 | .mk k a s n ks, v, h => by
   rw [TR] at h ⊢
   obtain ⟨sp, sc, kp, kc, e, h1, h2, h3⟩ := h
   refine ⟨sp, sc, kp, kc, e, fun i hi => ?_, h2, KR.later hs ks h3⟩
   obtain ⟨b, off, e, c1, c2⟩ := h1 i hi
   have k : ∀ j, W.cell? ⟨b, j, none⟩ = w.cell? ⟨b, j, none⟩ := fun j => World.cell?_of_block (w := w) (a := ⟨b, j, none⟩) (hs b (U.cell_lt c1))
   exact ⟨b, off, e, by rw [k]; exact c1, by rw [k]; exact c2⟩
theorem KR.later {w W : World} {ok : Nat → Prop} (hs : ∀ k, k < w.heap.size → W.heap[k]? = w.heap[k]?) : ∀ (ts : List T) {kp : Option Addr} {i : Nat}, KR w ok ts kp i → KR W ok ts kp i
 | [], kp, i, _ => by rw [KR]; trivial
 | t :: ts, kp, i, h => by
   rw [KR] at h ⊢
   obtain ⟨⟨b, off, v, e, h1, h2, h3⟩, h4⟩ := h
   exact ⟨⟨b, off, v, e, h1, TR.later hs t h2, cells5_same h3 (hs b (cells5_lt h3))⟩, KR.later hs ts h4⟩
end
structure Kp (n x : Nat) (w W : World) : Prop where
 os : W.os = w.os
 tape : W.tape = w.tape
 output : W.output = w.output
 size : w.heap.size ≤ W.heap.size
 block : ∀ k, k < n → k ≠ x → W.heap[k]? = w.heap[k]?
theorem Kp.trans {n x : Nat} {a b c : World} (h : Kp n x a b) (k : Kp n x b c) : Kp n x a c :=
 ⟨k.os.trans h.os, k.tape.trans h.tape, k.output.trans h.output, Nat.le_trans h.size k.size, fun i hi hx => (k.block i hi hx).trans (h.block i hi hx)⟩
theorem Kp.mono {n m x : Nat} {a b : World} (h : Kp n x a b) (hm : m ≤ n) : Kp m x a b := ⟨h.os, h.tape, h.output, h.size, fun k hk hx => h.block k (Nat.lt_of_lt_of_le hk hm) hx⟩
theorem Kp.of {n x : Nat} {a b : World} (h : Below n a b) : Kp n x a b := ⟨h.os, h.tape, h.output, h.size, fun k hk _ => h.block k hk⟩
theorem Kp.nx {n x : Nat} {a b c : World} (h : Kp n x a b) (hn : n ≤ b.heap.size) (k : Kp b.heap.size x b c) : Kp n x a c := h.trans (k.mono hn)
theorem Kp.nb {n x : Nat} {a b c : World} (h : Kp n x a b) (hn : n ≤ b.heap.size) (k : Below b.heap.size b c) : Kp n x a c := h.nx hn (Kp.of k)
theorem Kp.set {n x : Nat} {a b : World} (h : Kp n x a b) {p : Addr} (hp : p.block = x ∨ n ≤ p.block) (u : Value) : Kp n x a (b.setCell p u) :=
 h.trans ⟨rfl, rfl, rfl, by simp [World.setCell], fun k hk hx => Below.heap_setCell _ _ _ _ (by omega)⟩
theorem Kp.below {n x : Nat} {a b : World} (h : Kp n x a b) (hx : n ≤ x) : Below n a b := ⟨h.os, h.tape, h.output, h.size, fun k hk => h.block k hk (by omega)⟩
theorem Kp.tabs {n x : Nat} {a b : World} (h : Kp n x a b) (hn : a.heap.size ≤ n) {k : Nat} {o : Obj} (hk : a.heap[k]? = some o) (hx : k ≠ x) : b.heap[k]? = some o :=
 (h.block k (Nat.lt_of_lt_of_le (Array.getElem?_eq_some_iff.1 hk).1 hn) hx).trans hk
structure Rdr (w : World) (R : Nat) (ao : Option Addr) (cap : Nat) (l : List (X.Tk × Nat)) (i o : Nat) : Prop where
 box : w.heap[R]? = some (.cells #[.slice ao l.length cap, .int .i64 (i : Int), .int .i64 (o : Int)] 165)
 rd : RdK w ao l
 lo : ∀ b off, ao = some ⟨b, off, none⟩ → b < R
theorem rdk_but {w W : World} {ao : Option Addr} {l : List (X.Tk × Nat)} {x : Nat} (h : RdK w ao l) (hs : ∀ k, k < w.heap.size → k ≠ x → W.heap[k]? = w.heap[k]?) (hx : ∀ b off, ao = some ⟨b, off, none⟩ → b ≠ x) : RdK W ao l := fun i hi => by
 obtain ⟨b, off, e, h0, h1, h2, h3⟩ := h i hi
 have k : ∀ j, W.cell? ⟨b, j, none⟩ = w.cell? ⟨b, j, none⟩ := fun j => World.cell?_of_block (w := w) (a := ⟨b, j, none⟩) (hs b (U.cell_lt h0) (hx b off e))
 exact ⟨b, off, e, by rw [k]; exact h0, by rw [k]; exact h1, by rw [k]; exact h2, by rw [k]; exact h3⟩
theorem Rdr.lt {w : World} {R : Nat} {ao : Option Addr} {cap : Nat} {l : List (X.Tk × Nat)} {i o : Nat} (h : Rdr w R ao cap l i o) : R < w.heap.size := (Array.getElem?_eq_some_iff.1 h.box).1
theorem Rdr.noI {w : World} {R : Nat} {ao : Option Addr} {cap : Nat} {l : List (X.Tk × Nat)} {i o : Nat} (h : Rdr w R ao cap l i o) : NoI w R := noI_cells (cs := [_, _, _]) h.box rfl
theorem Rdr.later {w W : World} {R : Nat} {ao : Option Addr} {cap : Nat} {l : List (X.Tk × Nat)} {i o : Nat} (h : Rdr w R ao cap l i o) (hb : Below w.heap.size w W) : Rdr W R ao cap l i o :=
 ⟨(hb.block R h.lt).trans h.box, h.rd.later hb, h.lo⟩
theorem Rdr.cells {w : World} {R : Nat} {ao : Option Addr} {cap : Nat} {l : List (X.Tk × Nat)} {i o : Nat} (h : Rdr w R ao cap l i o) :
  w.cell? ⟨R, 0, none⟩ = some (.slice ao l.length cap) ∧ w.cell? ⟨R, 1, none⟩ = some (.int .i64 (i : Int)) ∧ w.cell? ⟨R, 2, none⟩ = some (.int .i64 (o : Int)) := by simp [World.cell?, h.box]
theorem Rdr.frz {w : World} {R : Nat} {ao : Option Addr} {cap : Nat} {l : List (X.Tk × Nat)} {i o : Nat} (h : Rdr w R ao cap l i o) (j : Nat) : w.frozen? ⟨R, j, none⟩ = false := by simp [World.frozen?, h.box]
theorem Rdr.put {w : World} {R : Nat} {ao : Option Addr} {cap : Nat} {l : List (X.Tk × Nat)} {i o : Nat} (h : Rdr w R ao cap l i o) (j : Nat) : Rdr (w.setCell ⟨R, 1, none⟩ (.int .i64 (j : Int))) R ao cap l j o := by
 refine ⟨?_, rdk_but h.rd (fun k _ hk => Below.heap_setCell _ _ _ _ hk) (fun b off e => Nat.ne_of_lt (h.lo b off e)), h.lo⟩
 simp [World.setCell, Array.getElem?_modify, h.box]
theorem Rdr.putO {w : World} {R : Nat} {ao : Option Addr} {cap : Nat} {l : List (X.Tk × Nat)} {i o : Nat} (h : Rdr w R ao cap l i o) (j : Nat) : Rdr (w.setCell ⟨R, 2, none⟩ (.int .i64 (j : Int))) R ao cap l i j := by
 refine ⟨?_, rdk_but h.rd (fun k _ hk => Below.heap_setCell _ _ _ _ hk) (fun b off e => Nat.ne_of_lt (h.lo b off e)), h.lo⟩
 simp [World.setCell, Array.getElem?_modify, h.box]
theorem Rdr.but {w W : World} {R x : Nat} {ao : Option Addr} {cap : Nat} {l : List (X.Tk × Nat)} {i o : Nat} (h : Rdr w R ao cap l i o) (hs : ∀ k, k < w.heap.size → k ≠ x → W.heap[k]? = w.heap[k]?) (hx : R < x) : Rdr W R ao cap l i o :=
 ⟨(hs R h.lt (by omega)).trans h.box, rdk_but h.rd hs (fun b off e => by have := h.lo b off e; omega), h.lo⟩
end Go.Proofs.YtgngaldoemopjaaGreatDoor
namespace Go.Proofs.YtgngaldoemopjaaGreatDoor
namespace PA
abbrev Pl := List U.S.R × Nat
structure En where
 f : Nat
 l : Nat
 n : Bool
def none : En := ⟨0, 0, true⟩
def or (x y : En) : En := ⟨x.f ||| y.f, x.l ||| y.l, x.n || y.n⟩
def ahead (x y : En) : En := ⟨if x.n then x.f ||| y.f else x.f, if y.n then y.l ||| x.l else y.l, x.n && y.n⟩
def join (a b : Nat) (st : List Pl) : List Pl := st.mapIdx fun i p => if a.testBit i then (p.1, p.2 ||| b) else p
abbrev Tf := List Pl → List Pl × En
def nil : Tf := fun st => (st, none)
def row (g : Tf) : Tf := fun st => (join (g st).2.l (g st).2.f (g st).1, (g st).2)
def step (k : Int) (s : List U.S.R) (g h : Tf) : Tf := fun st =>
 if k = 1 then (st ++ [(s, 0)], ⟨2 ^ st.length, 2 ^ st.length, false⟩)
 else if k = 4 then (join (g st).2.l (h (g st).1).2.f (h (g st).1).1, ahead (g st).2 (h (g st).1).2)
 else if k = 5 then ((h (g st).1).1, or (g st).2 (h (g st).1).2)
 else if k = 6 then ((row g st).1, or (row g st).2 none)
 else if k = 7 then row g st
 else if k = 8 then ((g st).1, or (g st).2 none)
 else (st, none)
mutual
def add : E.T → Tf
 | .mk k _ s _ ks => step k s ((addK ks).getD 0 nil) ((addK ks).getD 1 nil)
def addK : List E.T → List Tf
 | [] => []
 | t :: ts => add t :: addK ts
end
theorem addK_map : ∀ ks : List E.T, addK ks = ks.map add
 | [] => by rw [addK]; rfl
 | t :: ts => by rw [addK, addK_map ts, List.map_cons]
theorem add_mk (k a : Int) (s : List U.S.R) (n : List UInt8) (ks : List E.T) : add (.mk k a s n ks) = step k s ((ks.map add).getD 0 nil) ((ks.map add).getD 1 nil) := by rw [add, addK_map]
theorem join_length (a b : Nat) (st : List Pl) : (join a b st).length = st.length := by simp [join]
theorem join_get (a b : Nat) (st : List Pl) (i : Nat) (h : i < st.length) : (join a b st)[i]'(by rw [join_length]; exact h) = if a.testBit i then (st[i].1, st[i].2 ||| b) else st[i] := by simp [join]
theorem or_lt {a b n : Nat} (h : a < 2 ^ n) (k : b < 2 ^ n) : a ||| b < 2 ^ n := Nat.or_lt_two_pow h k
theorem up {a m n : Nat} (h : a < 2 ^ m) (k : m ≤ n) : a < 2 ^ n := Nat.lt_of_lt_of_le h (Nat.pow_le_pow_right (by decide) k)
theorem join_mem {a b : Nat} {st : List Pl} {n : Nat} (h : ∀ p ∈ st, p.2 < 2 ^ n) (hb : b < 2 ^ n) : ∀ p ∈ join a b st, p.2 < 2 ^ n := by
 intro p hp
 obtain ⟨i, hi, rfl⟩ := List.mem_iff_getElem.1 hp
 rw [join_length] at hi
 rw [join_get a b st i hi]
 split
 · exact or_lt (h _ (List.getElem_mem hi)) hb
 · exact h _ (List.getElem_mem hi)
structure Gd (g : Tf) (c : Nat) : Prop where
 len : ∀ st, (g st).1.length = st.length + c
 fl : ∀ st, (∀ p ∈ st, p.2 < 2 ^ st.length) → ∀ p ∈ (g st).1, p.2 < 2 ^ (st.length + c)
 f : ∀ st, (g st).2.f < 2 ^ (st.length + c)
 l : ∀ st, (g st).2.l < 2 ^ (st.length + c)
theorem gd_nil : Gd nil 0 := ⟨fun _ => rfl, fun _ h => h, fun _ => Nat.two_pow_pos _, fun _ => Nat.two_pow_pos _⟩
theorem gd_row {g : Tf} {c : Nat} (h : Gd g c) : Gd (row g) c :=
 ⟨fun st => by rw [row, join_length]; exact h.len st, fun st hs => by rw [row]; exact join_mem (h.fl st hs) (h.f st), h.f, h.l⟩
theorem zlt (n : Nat) : 0 < 2 ^ n := Nat.two_pow_pos n
def cN (k : Int) (a b : Nat) : Nat := if k = 1 then 1 else if k = 4 ∨ k = 5 then a + b else if k = 6 ∨ k = 7 ∨ k = 8 then a else 0
theorem gd_step {g h : Tf} {a b : Nat} (hg : Gd g a) (hh : Gd h b) (k : Int) (s : List U.S.R) : Gd (step k s g h) (cN k a b) := by
 have key : ∀ st, (h (g st).1).1.length = st.length + (a + b) := fun st => by rw [hh.len, hg.len]; omega
 have lg : ∀ st, (g st).2.l < 2 ^ (st.length + (a + b)) := fun st => up (hg.l st) (by omega)
 have fg : ∀ st, (g st).2.f < 2 ^ (st.length + (a + b)) := fun st => up (hg.f st) (by omega)
 have lh : ∀ st, (h (g st).1).2.l < 2 ^ (st.length + (a + b)) := fun st => by have := hh.l (g st).1; rw [hg.len] at this; exact up this (by omega)
 have fh : ∀ st, (h (g st).1).2.f < 2 ^ (st.length + (a + b)) := fun st => by have := hh.f (g st).1; rw [hg.len] at this; exact up this (by omega)
 have flh : ∀ st, (∀ p ∈ st, p.2 < 2 ^ st.length) → ∀ p ∈ (h (g st).1).1, p.2 < 2 ^ (st.length + (a + b)) := fun st hs p hp => by
   have := hh.fl (g st).1 (by rw [hg.len]; exact hg.fl st hs) p hp
   rw [hg.len] at this
   exact up this (by omega)
 have e0 : ∀ x y : En, ∀ n, x.f < 2 ^ n → x.l < 2 ^ n → y.f < 2 ^ n → y.l < 2 ^ n → (ahead x y).f < 2 ^ n ∧ (ahead x y).l < 2 ^ n := fun x y n h1 h2 h3 h4 => by
   unfold ahead
   constructor
   · dsimp only; split
     · exact or_lt h1 h3
     · exact h1
   · dsimp only; split
     · exact or_lt h4 h2
     · exact h4
 unfold step cN
 by_cases k1 : k = 1
 · simp only [if_pos k1]
   refine ⟨fun st => by simp, fun st hs p hp => ?_, fun st => ?_, fun st => ?_⟩
   · rcases List.mem_append.1 hp with h1 | h1
     · exact up (hs p h1) (by omega)
     · rw [List.mem_singleton.1 h1]; exact zlt _
   · exact Nat.pow_lt_pow_right (by decide) (by omega)
   · exact Nat.pow_lt_pow_right (by decide) (by omega)
 · simp only [if_neg k1]
   by_cases k4 : k = 4
   · have k45 : k = 4 ∨ k = 5 := .inl k4
     simp only [if_pos k4, if_pos k45]
     exact ⟨fun st => by rw [join_length]; exact key st, fun st hs => join_mem (flh st hs) (fh st), fun st => (e0 _ _ _ (fg st) (lg st) (fh st) (lh st)).1, fun st => (e0 _ _ _ (fg st) (lg st) (fh st) (lh st)).2⟩
   · simp only [if_neg k4]
     by_cases k5 : k = 5
     · have k45 : k = 4 ∨ k = 5 := .inr k5
       simp only [if_pos k5, if_pos k45]
       exact ⟨key, flh, fun st => or_lt (fg st) (fh st), fun st => or_lt (lg st) (lh st)⟩
     · have k45 : ¬ (k = 4 ∨ k = 5) := by omega
       simp only [if_neg k5, if_neg k45]
       by_cases k6 : k = 6
       · have kk : k = 6 ∨ k = 7 ∨ k = 8 := .inl k6
         simp only [if_pos k6, if_pos kk]
         exact ⟨(gd_row hg).len, (gd_row hg).fl, fun st => or_lt (hg.f st) (zlt _), fun st => or_lt (hg.l st) (zlt _)⟩
       · simp only [if_neg k6]
         by_cases k7 : k = 7
         · have kk : k = 6 ∨ k = 7 ∨ k = 8 := .inr (.inl k7)
           simp only [if_pos k7, if_pos kk]
           exact gd_row hg
         · simp only [if_neg k7]
           by_cases k8 : k = 8
           · have kk : k = 6 ∨ k = 7 ∨ k = 8 := .inr (.inr k8)
             simp only [if_pos k8, if_pos kk]
             exact ⟨hg.len, hg.fl, fun st => or_lt (hg.f st) (zlt _), fun st => or_lt (hg.l st) (zlt _)⟩
           · have kk : ¬ (k = 6 ∨ k = 7 ∨ k = 8) := by omega
             simp only [if_neg k8, if_neg kk]
             exact ⟨fun _ => rfl, fun _ h => h, fun _ => zlt _, fun _ => zlt _⟩
def bits (x : Nat) : List Nat := (List.range 64).filter fun i => x.testBit i
theorem mem_bits {x i : Nat} : i ∈ bits x ↔ i < 64 ∧ x.testBit i = true := by simp [bits]
theorem low_at {x : Nat} (h0 : x ≠ 0) (h : x < 2 ^ 64) : ∃ k m, Lib.ctz 64 x = k ∧ k < 64 ∧ x = 2 ^ k * (2 * m + 1) := by
 obtain ⟨m, hm, hk⟩ := Lib.ctzFrom_spec 64 x (Nat.pos_of_ne_zero h0) h
 exact ⟨_, m, by unfold Lib.ctz; rw [if_neg h0], hk, hm⟩
theorem bit_low (k m j : Nat) : (2 ^ k * (2 * m + 1)).testBit j = (decide (k = j) || (decide (k < j) && m.testBit (j - k - 1))) := by
 rw [Nat.mul_comm, Nat.testBit_mul_two_pow]
 by_cases h : k = j
 · subst h; simp
 · by_cases h2 : k < j
   · obtain ⟨d, rfl⟩ : ∃ d, j = k + (d + 1) := ⟨j - k - 1, by omega⟩
     have e1 : k + (d + 1) - k = d + 1 := by omega
     rw [e1, Nat.add_sub_cancel, Nat.testBit_succ, show (2 * m + 1) / 2 = m by omega]
     simp [h2]
   · have : ¬ k ≤ j := by omega
     simp [h, h2, this]
theorem bit_pred (k m j : Nat) : (2 ^ k * (2 * m + 1) - 1).testBit j = (decide (j < k) || (decide (k < j) && m.testBit (j - k - 1))) := by
 have e : 2 ^ k * (2 * m + 1) - 1 = 2 ^ k * (2 * m) + (2 ^ k - 1) := by
   have := Nat.two_pow_pos k
   rw [Nat.mul_add]; omega
 rw [e, Nat.testBit_two_pow_mul_add _ (by have := Nat.two_pow_pos k; omega)]
 by_cases h : j < k
 · simp [h, Nat.testBit_two_pow_sub_one]
 · simp only [h, if_false, decide_false, Bool.false_or]
   by_cases h2 : k < j
   · obtain ⟨d, rfl⟩ : ∃ d, j = k + (d + 1) := ⟨j - k - 1, by omega⟩
     have e1 : k + (d + 1) - k = d + 1 := by omega
     rw [e1, Nat.add_sub_cancel, Nat.testBit_succ, show 2 * m / 2 = m by omega]
     simp [h2]
   · have : j = k := by omega
     subst this
     simp
theorem bit_rest {x : Nat} (h0 : x ≠ 0) (h : x < 2 ^ 64) (j : Nat) : (x &&& (x - 1)).testBit j = (x.testBit j && decide (Lib.ctz 64 x ≠ j)) := by
 obtain ⟨k, m, hk, _, rfl⟩ := low_at h0 h
 rw [Nat.testBit_and, hk, bit_low, bit_pred]
 by_cases e : k = j
 · subst e; simp
 · by_cases h2 : k < j
   · have : ¬ j < k := by omega
     simp [e, h2, this]
   · simp [e, h2]
theorem rest_lt {x : Nat} (h : x < 2 ^ 64) : x &&& (x - 1) < 2 ^ 64 := Nat.and_lt_two_pow _ (by omega)
theorem bits_sorted (x : Nat) : (bits x).Pairwise (· < ·) := List.Pairwise.filter _ List.pairwise_lt_range
theorem sorted_uniq : ∀ {a b : List Nat}, a.Pairwise (· < ·) → b.Pairwise (· < ·) → (∀ y, y ∈ a ↔ y ∈ b) → a = b
 | [], [], _, _, _ => rfl
 | [], y :: b, _, _, h => absurd ((h y).2 List.mem_cons_self) (by simp)
 | x :: a, [], _, _, h => absurd ((h x).1 List.mem_cons_self) (by simp)
 | x :: a, y :: b, ha, hb, h => by
   rw [List.pairwise_cons] at ha hb
   have hxy : x = y := by
     rcases List.mem_cons.1 ((h x).1 List.mem_cons_self) with e | e
     · exact e
     · rcases List.mem_cons.1 ((h y).2 List.mem_cons_self) with e' | e'
       · exact e'.symm
       · exact absurd (Nat.lt_trans (hb.1 x e) (ha.1 y e')) (Nat.lt_irrefl y)
   subst hxy
   refine congrArg (x :: ·) (sorted_uniq ha.2 hb.2 fun z => ⟨fun hz => ?_, fun hz => ?_⟩)
   · rcases List.mem_cons.1 ((h z).1 (List.mem_cons_of_mem _ hz)) with e | e
     · subst e; exact absurd (ha.1 z hz) (Nat.lt_irrefl z)
     · exact e
   · rcases List.mem_cons.1 ((h z).2 (List.mem_cons_of_mem _ hz)) with e | e
     · subst e; exact absurd (hb.1 z hz) (Nat.lt_irrefl z)
     · exact e
theorem ctz_bit {x : Nat} (h0 : x ≠ 0) (h : x < 2 ^ 64) : Lib.ctz 64 x < 64 ∧ x.testBit (Lib.ctz 64 x) = true ∧ ∀ j, x.testBit j = true → Lib.ctz 64 x ≤ j := by
 obtain ⟨k, m, hk, hl, rfl⟩ := low_at h0 h
 rw [hk]
 refine ⟨hl, by rw [bit_low]; simp, fun j hj => ?_⟩
 rw [bit_low] at hj
 simp at hj
 omega
theorem bits_cons {x : Nat} (h0 : x ≠ 0) (h : x < 2 ^ 64) : bits x = Lib.ctz 64 x :: bits (x &&& (x - 1)) := by
 obtain ⟨h1, h2, h3⟩ := ctz_bit h0 h
 refine sorted_uniq (bits_sorted x) (List.pairwise_cons.2 ⟨fun y hy => ?_, bits_sorted _⟩) fun y => ?_
 · rw [mem_bits, bit_rest h0 h] at hy
   simp at hy
   have := h3 y hy.2.1
   omega
 · rw [List.mem_cons, mem_bits, mem_bits, bit_rest h0 h]
   simp only [Bool.and_eq_true, decide_eq_true_eq]
   constructor
   · rintro ⟨a, b⟩
     by_cases e : Lib.ctz 64 x = y
     · exact .inl e.symm
     · exact .inr ⟨a, b, e⟩
   · rintro (rfl | ⟨a, b, _⟩)
     · exact ⟨h1, h2⟩
     · exact ⟨a, b⟩
theorem bits_zero : bits 0 = [] := by simp [bits]
theorem bits_len (x : Nat) : (bits x).length ≤ 64 := Nat.le_trans (List.length_filter_le _ _) (by simp)
theorem bits_low {x n : Nat} (h : x < 2 ^ n) : ∀ i ∈ bits x, i < n := fun i hi => by
 have := (mem_bits.1 hi).2
 exact Nat.lt_of_not_le fun hn => by rw [Nat.testBit_lt_two_pow (Nat.lt_of_lt_of_le h (Nat.pow_le_pow_right (by decide) hn))] at this; cases this
structure Au where
 pl : List Pl
 w : En
def fol (a : Au) (i : Nat) : Nat := (a.pl[i]?.map (·.2)).getD 0
def bg : Nat := 9223372036854775808
theorem bg_bit (s : Nat) : (s &&& 9223372036854775808 ≠ 0) ↔ s.testBit 63 = true := by
 constructor
 · intro h
   cases hb : s.testBit 63 with
   | true => rfl
   | false =>
     refine absurd (Nat.eq_of_testBit_eq fun j => ?_) h
     rw [show (9223372036854775808 : Nat) = 2 ^ 63 from rfl, Nat.testBit_and, Nat.testBit_two_pow, Nat.zero_testBit]
     by_cases e : 63 = j
     · subst e; rw [hb]; rfl
     · simp [e]
 · intro h e
   have := congrArg (fun x => x.testBit 63) e
   simp only [Nat.testBit_and, Nat.zero_testBit, h, Bool.true_and] at this
   exact absurd this (by decide)
def orL (g : Nat → Nat) (l : List Nat) (x : Nat) : Nat := l.foldl (fun x i => x ||| g i) x
theorem orL_bit (g : Nat → Nat) : ∀ (l : List Nat) (x j : Nat), (orL g l x).testBit j = (x.testBit j || l.any fun i => (g i).testBit j)
 | [], x, j => by simp [orL]
 | i :: l, x, j => by
   show (orL g l (x ||| g i)).testBit j = _
   rw [orL_bit g l, Nat.testBit_or, List.any_cons, Bool.or_assoc]
theorem orL_lt {g : Nat → Nat} {n : Nat} : ∀ (l : List Nat) (x : Nat), x < 2 ^ n → (∀ i ∈ l, g i < 2 ^ n) → orL g l x < 2 ^ n
 | [], _, h, _ => h
 | i :: l, x, h, hg => orL_lt l (x ||| g i) (or_lt h (hg i List.mem_cons_self)) fun j hj => hg j (List.mem_cons_of_mem _ hj)
theorem orL_snoc (g : Nat → Nat) (l : List Nat) (i x : Nat) : orL g (l ++ [i]) x = orL g l x ||| g i := by simp [orL]
def behind (a : Au) (s : Nat) : Nat := orL (fun i => if s.testBit i then fol a i else 0) (List.range a.pl.length) (if s.testBit 63 then a.w.f else 0)
def hasB (a : Au) (r : Int) (i : Nat) : Bool := (a.pl[i]?.map fun p => U.S.hasB (U.S.goods p.1) r).getD false
noncomputable def stp (a : Au) (s : Nat) (r : Int) : Nat := orL (fun i => if (behind a s).testBit i && hasB a r i then 2 ^ i else 0) (List.range a.pl.length) 0
def acc (a : Au) (s : Nat) : Bool := decide (s &&& a.w.l ≠ 0) || (s.testBit 63 && a.w.n)
end PA
end Go.Proofs.YtgngaldoemopjaaGreatDoor
