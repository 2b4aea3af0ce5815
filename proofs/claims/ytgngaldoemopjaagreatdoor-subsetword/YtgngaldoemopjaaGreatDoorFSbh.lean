/- Joined: UEnds Sba Sbt Sbh. -/
import Derived.Laws.Bits64
import Derived.Laws.Bits64b
import Derived.Test.YtgngaldoemopjaaGreatDoorFUOrd
import Derived.Test.YtgngaldoemopjaaGreatDoorFPsp
import Derived.Test.YtgngaldoemopjaaGreatDoorFUKeysb
import Derived.Test.YtgngaldoemopjaaGreatDoorFSqr
import Derived.Test.YtgngaldoemopjaaGreatDoorFJA
import Derived.BigQuiet
import Derived.RangeFuncBox
import Derived.Maps.AppendAt
import Derived.Test.YtgngaldoemopjaaGreatDoorFUHas
namespace Go.Proofs.YtgngaldoemopjaaGreatDoor.U
open Go.RowKit Go.Shelf
attribute [local go_sem] Oper.semAt_some
def Tg : Obj → Bool
 | .cells _ t _ => t == 143 || t == 123 || t == 140
 | _ => false
structure Quiet (e : Nat) (A B : World) : Prop where
 os : B.os = A.os
 tape : B.tape = A.tape
 output : B.output = A.output
 size : A.heap.size ≤ B.heap.size
 same : ∀ (k : Nat) (o : Obj), A.heap[k]? = some o → (k < e ∨ Tg o = true) → B.heap[k]? = some o
structure Kept (e : Nat) (A B : World) : Prop where
 size : A.heap.size ≤ B.heap.size
 same : ∀ (k : Nat) (o : Obj), A.heap[k]? = some o → e ≤ k → Tg o = false → B.heap[k]? = some o
theorem Quiet.mono {e e' : Nat} {A B : World} (h : Quiet e A B) (he : e' ≤ e) : Quiet e' A B := ⟨h.os, h.tape, h.output, h.size, fun i o hi ho => h.same i o hi (ho.imp (fun x => by omega) id)⟩
theorem quiet_below {e : Nat} {A B : World} (h : Below A.heap.size A B) : Quiet e A B := ⟨h.os, h.tape, h.output, h.size, fun k _ hk _ => (h.block k (Array.getElem?_eq_some_iff.1 hk).1).trans hk⟩
theorem quiet_put {e l : Nat} {A : World} {o : Obj} (h : A.heap[l]? = some o) (hl : e ≤ l) (ho : Tg o = false) (o' : Obj) : Quiet e A (A.putObj l o') :=
 ⟨rfl, rfl, rfl, by simp, fun k o2 hk hk2 => by
   have hne : k ≠ l := by
     rintro rfl
     rw [h] at hk
     cases hk
     rcases hk2 with h1 | h1
     · omega
     · rw [ho] at h1; cases h1
   rw [World.putObj_heap_other hne]
   exact hk⟩
theorem quiet_box {e B : Nat} {A : World} {t : TypeId} {v : Value} (h : Boxed A B t v) (hB : e ≤ B) (ht : Tg (.cells #[v] t (0, 0)) = false) (v' : Value) : Quiet e A (A.setCell ⟨B, 0, none⟩ v') :=
 ⟨rfl, rfl, rfl, (grownBy_setCell' A B v').size, fun k o hk hk2 => by
   have hne : k ≠ B := by
     rintro rfl
     rw [show A.heap[k]? = _ from h] at hk
     cases hk
     rcases hk2 with h1 | h1
     · omega
     · rw [ht] at h1; cases h1
   exact ((grownBy_setCell' A B v').block k (Array.getElem?_eq_some_iff.1 hk).1 (by simpa using hne)).trans hk⟩
theorem Kept.trans {e : Nat} {A B C : World} (h : Kept e A B) (k : Kept e B C) : Kept e A C := ⟨Nat.le_trans h.size k.size, fun i o hi he ho => k.same i o (h.same i o hi he ho) he ho⟩
theorem Kept.mono {e e' : Nat} {A B : World} (h : Kept e A B) (he : e ≤ e') : Kept e' A B := ⟨h.size, fun i o hi h1 ho => h.same i o hi (by omega) ho⟩
theorem kept_below {e : Nat} {A B : World} (h : Below A.heap.size A B) : Kept e A B := ⟨h.size, fun k _ hk _ _ => (h.block k (Array.getElem?_eq_some_iff.1 hk).1).trans hk⟩
theorem kept_grown {e k : Nat} {A B : World} (h : A.grownBy B (some k)) (hk : k < e) : Kept e A B := ⟨h.size, fun i _ hi he _ => (h.block i (Array.getElem?_eq_some_iff.1 hi).1 (fun x => by cases x; omega)).trans hi⟩
theorem below_grown {n k : Nat} {A B C : World} (h : Below n A B) (hg : B.grownBy C (some k)) (hk : n ≤ k) (hn : n ≤ A.heap.size) : Below n A C :=
 ⟨hg.os.trans h.os, hg.tape.trans h.tape, hg.output.trans h.output, Nat.le_trans h.size hg.size, fun i hi => (hg.block i (by have := h.size; omega) (fun x => by cases x; omega)).trans (h.block i hi)⟩
def RdS (w : World) (sao : Option Addr) (ls : List L3) : Prop := ∀ i (h : i < ls.length), ∃ b off, sao = some ⟨b, off, none⟩ ∧ w.cell? ⟨b, off + i, none⟩ = some (.slice ls[i].1 ls[i].2.2.length ls[i].2.1) ∧ RdR w ls[i].1 ls[i].2.2
theorem RdS.later {w w' : World} {sao : Option Addr} {ls : List L3} (h : RdS w sao ls) (hb : Below w.heap.size w w') : RdS w' sao ls := fun i hi =>
 let ⟨b, off, e, h1, h2⟩ := h i hi
 ⟨b, off, e, cell_later hb h1, h2.later hb⟩
def TOf (ls : List L3) : List (List S.R) := ls.map fun p => p.2.2
theorem TOf_at (ls : List L3) (i : Nat) (h : i < ls.length) : (TOf ls).getD i [] = ls[i].2.2 := by simp [TOf, List.getD_eq_getElem?_getD, List.getElem?_eq_getElem h]
def mpf (L : List (Int × Nat)) : Int → Option Int := fun x => (evN L x).map fun m => (m : Int)
theorem mpf_get (L : List (Int × Nat)) (x : Int) : (mpf L x).getD 0 = (((evN L x).getD 0 : Nat) : Int) := by unfold mpf; cases evN L x <;> rfl
theorem mpf_snoc (L : List (Int × Nat)) (a : Int) (i : Nat) : mpf (L ++ [(a, i)]) = upd (mpf L) a (((evN L a).getD 0 ^^^ 2 ^ i : Nat) : Int) := by
 funext x
 unfold mpf upd
 rw [evN_snoc]
 by_cases h : x = a
 · simp [h]
 · simp [h]
def encE (p : Int × Nat) : Array Value := #[.int .i32 p.1, .int .u64 (p.2 : Int)]
noncomputable def endsL (ls : List L3) : List (Int × Nat) := evT (TOf ls) ls.length
noncomputable def endsZ (ls : List L3) : List (Int × Nat) := (ksOf (endsL ls)).map fun k => (k, (evN (endsL ls) k).getD 0)
theorem wf32 {x : Int} (h : -2147483648 ≤ x ∧ x ≤ 2147483647) : (Lit.int .i32 x).wf = true := by
 simp [Lit.wf, IntKind.min, IntKind.max, IntKind.bits, IntKind.signed]
 omega
theorem wf64 {m : Nat} (h : m < 2 ^ 64) : (Lit.int .u64 (m : Int)).wf = true := by
 simp [Lit.wf, IntKind.min, IntKind.max, IntKind.bits, IntKind.signed]
 omega
end Go.Proofs.YtgngaldoemopjaaGreatDoor.U
namespace Go.Proofs.YtgngaldoemopjaaGreatDoor
open Go.RowKit Go.Shelf
open U (Chg Mp upd)
attribute [local go_sem] Oper.semAt_some
namespace SB
def num (L : List Nat) (x : Nat) : List Nat := if x ∈ L then L else L ++ [x]
theorem num_pre (L : List Nat) (x : Nat) : L <+: num L x := by
 unfold num
 split
 · exact List.prefix_refl _
 · exact List.prefix_append _ _
theorem num_mem (L : List Nat) (x : Nat) : x ∈ num L x := by
 unfold num
 split
 · assumption
 · simp
theorem num_len (L : List Nat) (x : Nat) : (num L x).length ≤ L.length + 1 := by
 unfold num
 split <;> simp
theorem idx_pre {L L' : List Nat} {x : Nat} (h : L <+: L') (hx : x ∈ L) : L'.idxOf x = L.idxOf x := by
 obtain ⟨r, rfl⟩ := h
 rw [List.idxOf_append, if_pos hx]
def fN (L : List Nat) : Int → Option Int := fun x => if 0 ≤ x ∧ x.toNat ∈ L then some (L.idxOf x.toNat : Int) else none
theorem fN_nil : fN [] = fun _ => none := by funext x; simp [fN]
theorem fN_at (L : List Nat) (m : Nat) : fN L (m : Int) = if m ∈ L then some (L.idxOf m : Int) else none := by simp [fN]
theorem fN_snoc (L : List Nat) (m : Nat) (h : m ∉ L) : upd (fN L) (m : Int) (L.length : Int) = fN (L ++ [m]) := by
 funext y
 unfold upd fN
 by_cases hy : y = (m : Int)
 · subst hy
   simp [List.idxOf_append, h]
 · rw [if_neg hy]
   by_cases h0 : 0 ≤ y
   · obtain ⟨k, rfl⟩ := Int.eq_ofNat_of_zero_le h0
     have hk : k ≠ m := fun e => hy (by rw [e])
     simp only [Int.toNat_natCast, List.mem_append, List.mem_singleton, hk, or_false]
     by_cases hL : k ∈ L
     · simp [hL, List.idxOf_append]
     · simp [hL]
   · simp [h0]
def u64s (L : List Nat) : List Value := L.map fun (x : Nat) => .int .u64 (x : Int)
end SB
def Mn (w : World) (b c : Nat) (f : Int → Option Int) : Prop :=
 ∃ D : DataW Unit, w.ownsMap Tryz.prog 35 (plainElem Tryz.prog 3) b c D ∧ (∀ x, (Lit.int .u64 x).wf = true → Maps.has D (.int .u64 x) = (f x).isSome ∧ D.atKey (.int .u64 x) (.lit (.int .i64 0)) = .lit (.int .i64 ((f x).getD 0))) ∧ Maps.size D = c
section
variable {w W : World} {b c : Nat} {f : Int → Option Int}
theorem Mn.mp (h : Mn w b c f) : Mp w 35 .u64 3 .i64 b c f := let ⟨D, h1, h2, _⟩ := h; ⟨D, h1, h2⟩
theorem Mn.made (w : World) : Mn (w.alloc (.map #[] 0)) w.heap.size 0 (fun _ => none) :=
 ⟨_, World.ownsMap_made w Tryz.prog 35 _, fun _ _ => ⟨rfl, rfl⟩, rfl⟩
theorem Mn.kept (h : Mn w b c f) (hb : W.heap[b]? = w.heap[b]?) : Mn W b c f := by
 obtain ⟨D, ⟨es, clock, h1, h2⟩, h3⟩ := h
 exact ⟨D, ⟨es, clock, hb.trans h1, h2⟩, h3⟩
theorem Mn.len (h : Mn w b c f) (ty : TypeId) : (Builtin.len_ #[146] ty #[.map (some b)]).run Tryz.prog w = .ok (.int .i64 (c : Int)) w := by
 obtain ⟨D, h1, _, h3⟩ := h
 rw [h1.len Tryz.underlying146 ty, h3]
theorem Mn.store (h : Mn w b c f) (hc : c < maxLen) {x v : Int} (hx : (Lit.int .u64 x).wf = true) (hv : (Lit.int .i64 v).wf = true) (hn : f x = none) :
   ∃ w', (Instr.mapUpdate 146 (.map (some b)) (.int .u64 x) (.int .i64 v)).run Tryz.prog w = .ok () w' ∧ Mn w' b (c + 1) (upd f x v) ∧ w.grownBy w' (some b) ∧ w'.heap.size = w.heap.size := by
 obtain ⟨D, h1, h2, h5⟩ := h
 have hkey := Maps.keyOf_int_mk (P := Tryz.prog) Tryz.underlying35 hx
 have K := Maps.int_keyed (P := Tryz.prog) Tryz.underlying35
 obtain ⟨w', hr, h3, h4⟩ := h1.store K Tryz.underlying146 hc hkey (plainElem_int Tryz.underlying3 hv)
 have hsz : w'.heap.size = w.heap.size := by
   obtain ⟨_, _, _, _, _, rfl⟩ := h4
   simp [Go.ChangeMaps.setBlock]
 have hkl : WideAt.IsKeyLit (.int .u64 x) := ⟨⟩
 refine ⟨w', hr, ⟨_, h3, fun y hy => ?_, ?_⟩, h4.grown, hsz⟩
 · by_cases hyx : y = x
   · subst hyx
     simp [upd, Maps.has_put_same h1.isMap hkl, Maps.atKey_put_same h1.isMap hkl]
   · have hne : (Lit.int .u64 y) ≠ (Lit.int .u64 x) := fun e => hyx (by cases e; rfl)
     rw [Maps.has_put_other hne, Maps.atKey_put_other hne]
     simp [upd, hyx, h2 y hy]
 · have := (h2 x hx).1
   rw [hn] at this
   rw [Maps.size_put (h1.tidy K), h5, this]
   rfl
end
theorem wfU {m : Nat} (h : m < 2 ^ 64) : (Lit.int .u64 (m : Int)).wf = true := by
 simp [Lit.wf, IntKind.min, IntKind.max, IntKind.bits, IntKind.signed]
 omega
theorem wfI {m : Nat} (h : m ≤ 1000000) : (Lit.int .i64 (m : Int)).wf = true := by
 simp [Lit.wf, IntKind.min, IntKind.max, IntKind.bits, IntKind.signed]
 omega
theorem info35U : (Tryz.prog.info? 35).map (fun i => (i.zero, i.size, i.bytes)) = some (some (.int .u64 0), 1, 8) := by kernel_rfl
theorem cell5_at {w : World} {b : Nat} {c0 c1 c2 c3 c4 : Value} {t : TypeId} (h : w.heap[b]? = some (.cells #[c0, c1, c2, c3, c4] t)) : w.cell? ⟨b, 0, none⟩ = some c0 ∧ w.cell? ⟨b, 1, none⟩ = some c1 ∧ w.cell? ⟨b, 2, none⟩ = some c2 ∧ w.cell? ⟨b, 3, none⟩ = some c3 ∧ w.cell? ⟨b, 4, none⟩ = some c4 := by
 simp [World.cell?, h]
def OwnU (w : World) (B : Nat) (v : Value) (L : List Nat) : Prop := w.ownsRow B 35 1 v L.length (SB.u64s L)
theorem OwnU.same {w w' : World} {B : Nat} {v : Value} {L : List Nat} (h : OwnU w B v L) (hs : ∀ g, v.ownBlock = some g → w'.heap[g]? = w.heap[g]?) : OwnU w' B v L := by
 obtain ⟨h1, h2 | ⟨g, cap, cur, rfl, h3, h4, h5⟩⟩ := h
 · exact ⟨h1, .inl h2⟩
 · exact ⟨h1, .inr ⟨g, cap, cur, rfl, h3, (hs g rfl).trans h4, h5⟩⟩
theorem OwnU.tag {w : World} {B : Nat} {v : Value} {L : List Nat} (h : OwnU w B v L) {g : Nat} (hg : v.ownBlock = some g) : B ≤ g ∧ ∃ cs, w.heap[g]? = some (.cells cs 35 (0, 0)) := by
 obtain ⟨_, ⟨rfl, _⟩ | ⟨g', cap, cur, rfl, h3, h4, _⟩⟩ := h
 · cases hg
 · cases hg
   exact ⟨h3, cur, h4⟩
theorem OwnU.alloc {w : World} {B : Nat} {v : Value} {L : List Nat} (h : OwnU w B v L) (o : Obj) : OwnU (w.alloc o) B v L :=
 h.same fun g hg => by obtain ⟨_, cs, h2⟩ := h.tag hg; exact Below.heap_alloc _ _ _ (Array.getElem?_eq_some_iff.1 h2).1
structure MkB (W : World) (B P M A : Nat) (vm : Value) (L : List Nat) (k : Nat) (f : Int → Option Int) (c : Nat) : Prop where
 box : ∃ th tc, W.heap[P]? = some (.cells #[.pointer (some ⟨A, 0, none⟩), vm, .map (some M), .slice th L.length tc, .int .i64 (k : Int)] 150) ∧ OwnU W B (.slice th L.length tc) L
 map : Mn W M c f
 P0 : B ≤ P
 M0 : B ≤ M
def Ms (W : World) (B P M : Nat) (i : Nat) : Prop := i = P ∨ i = M ∨ (B ≤ i ∧ ∃ cs, W.heap[i]? = some (.cells cs 35 (0, 0)))
def MC (B P M : Nat) (W W' : World) : Prop := Chg (Ms W B P M) W W'
theorem MC.refl (B P M : Nat) (W : World) : MC B P M W W := ⟨rfl, rfl, rfl, Nat.le_refl _, fun _ _ _ => rfl⟩
theorem MC.trans {B P M : Nat} {W W' W'' : World} (h : MC B P M W W') (h' : MC B P M W' W'') : MC B P M W W'' :=
 ⟨h'.os.trans h.os, h'.tape.trans h.tape, h'.output.trans h.output, Nat.le_trans h.size h'.size, fun i hi hn => by
   have e := h.block i hi hn
   refine (h'.block i (Nat.lt_of_lt_of_le hi h.size) fun hm => hn ?_).trans e
   rcases hm with hm | hm | ⟨h1, cs, h2⟩
   · exact .inl hm
   · exact .inr (.inl hm)
   · exact .inr (.inr ⟨h1, cs, e ▸ h2⟩)⟩
theorem MC.of {B P M : Nat} {W W' : World} (h : Below W.heap.size W W') : MC B P M W W' := ⟨h.os, h.tape, h.output, h.size, fun i hi _ => h.block i hi⟩
theorem MC.below {B P M : Nat} {w W W' : World} (hb : Below B w W) (h : MC B P M W W') (hB : B ≤ W.heap.size) (hP : B ≤ P) (hM : B ≤ M) : Below B w W' :=
 ⟨h.os.trans hb.os, h.tape.trans hb.tape, h.output.trans hb.output, Nat.le_trans hb.size h.size, fun i hi => (h.block i (by omega) (by
   rintro (e | e | ⟨e, _⟩) <;> omega)).trans (hb.block i hi)⟩
section
variable {W W' : World} {B P M A : Nat} {vm : Value} {L : List Nat} {k c : Nat} {f : Int → Option Int}
theorem MkB.ne (h : MkB W B P M A vm L k f c) : P ≠ M := by
 rintro rfl
 obtain ⟨th, tc, h1, _⟩ := h.box
 obtain ⟨D, ⟨es, cl, h2, _⟩, _⟩ := h.map
 rw [h1] at h2
 cases h2
theorem MkB.lt (h : MkB W B P M A vm L k f c) : P < W.heap.size ∧ M < W.heap.size := by
 obtain ⟨th, tc, h1, _⟩ := h.box
 exact ⟨(Array.getElem?_eq_some_iff.1 h1).1, h.map.mp.lt⟩
theorem MkB.kept (h : MkB W B P M A vm L k f c) (hP : W'.heap[P]? = W.heap[P]?) (hM : W'.heap[M]? = W.heap[M]?) (ho : ∀ i cs, B ≤ i → W.heap[i]? = some (.cells cs 35 (0, 0)) → W'.heap[i]? = W.heap[i]?) : MkB W' B P M A vm L k f c := by
 obtain ⟨th, tc, h1, h2⟩ := h.box
 exact ⟨⟨th, tc, hP.trans h1, h2.same fun g hg => by obtain ⟨h3, cs, h4⟩ := h2.tag hg; exact ho g cs h3 h4⟩, h.map.kept hM, h.P0, h.M0⟩
theorem MkB.later (h : MkB W B P M A vm L k f c) (hb : Below W.heap.size W W') : MkB W' B P M A vm L k f c :=
 h.kept (hb.block _ h.lt.1) (hb.block _ h.lt.2) fun i _ _ hi => hb.block i (Array.getElem?_eq_some_iff.1 hi).1
end
theorem grown_at {W w1 : World} {o : Obj} {v : Value} {i : Nat} (hg : (W.alloc o).grownBy w1 v.ownBlock) (hi : i < W.heap.size) (hne : v.ownBlock ≠ some i) : w1.heap[i]? = W.heap[i]? :=
 (hg.block i (by simp; omega) (fun e => hne e.symm)).trans (Below.heap_alloc _ _ _ hi)
theorem set3 {w1 : World} {P : Nat} {c0 c1 c2 c3 c4 v : Value} (h : w1.heap[P]? = some (.cells #[c0, c1, c2, c3, c4] 150)) : (w1.setCell ⟨P, 3, none⟩ v).heap[P]? = some (.cells #[c0, c1, c2, v, c4] 150) := by
 simp [World.setCell, Array.getElem?_modify, h]
theorem set4 {w1 : World} {P : Nat} {c0 c1 c2 c3 c4 v : Value} (h : w1.heap[P]? = some (.cells #[c0, c1, c2, c3, c4] 150)) : (w1.setCell ⟨P, 4, none⟩ v).heap[P]? = some (.cells #[c0, c1, c2, c3, v] 150) := by
 simp [World.setCell, Array.getElem?_modify, h]
theorem put_fin {W w1 : World} {B P M A : Nat} {vm : Value} {L : List Nat} {k c x : Nat} {f : Int → Option Int} {th : Option Addr} {tc g' cap' : Nat} {o : Obj} (h : MkB W B P M A vm L k f c)
   (h1 : W.heap[P]? = some (.cells #[.pointer (some ⟨A, 0, none⟩), vm, .map (some M), .slice th L.length tc, .int .i64 (k : Int)] 150)) (h2 : OwnU W B (.slice th L.length tc) L)
   (hown : w1.ownsRow B 35 1 (.slice (some ⟨g', 0, none⟩) (L.length + 1) cap') (L.length + 1) (SB.u64s L ++ [.int .u64 (x : Int)])) (hg : (W.alloc o).grownBy w1 (Value.slice th L.length tc).ownBlock) :
   w1.heap[P]? = W.heap[P]? ∧ MkB (w1.setCell ⟨P, 3, none⟩ (.slice (some ⟨g', 0, none⟩) (L.length + 1) cap')) B P M A vm (L ++ [x]) k f c ∧ MC B P M W (w1.setCell ⟨P, 3, none⟩ (.slice (some ⟨g', 0, none⟩) (L.length + 1) cap')) := by
 have hnP : (Value.slice th L.length tc).ownBlock ≠ some P := fun e => by
   obtain ⟨_, cs, h3⟩ := h2.tag e
   rw [h1] at h3
   cases h3
 have hnM : (Value.slice th L.length tc).ownBlock ≠ some M := fun e => by
   obtain ⟨_, cs, h3⟩ := h2.tag e
   obtain ⟨D, ⟨es, cl, h4, _⟩, _⟩ := h.map
   rw [h4] at h3
   cases h3
 have hlt := h.lt
 have e1 := grown_at hg hlt.1 hnP
 have e2 := grown_at hg hlt.2 hnM
 have hne := h.ne
 have hs : ∀ i, i ≠ P → ∀ v, (w1.setCell ⟨P, 3, none⟩ v).heap[i]? = w1.heap[i]? := fun i hi v => Below.heap_setCell _ _ _ _ hi
 have hou : OwnU w1 B (.slice (some ⟨g', 0, none⟩) (L.length + 1) cap') (L ++ [x]) := by
   unfold OwnU SB.u64s
   rw [List.length_append, List.map_append]
   exact hown
 refine ⟨e1, ⟨⟨some ⟨g', 0, none⟩, cap', ?_, ?_⟩, h.map.kept ((hs M (Ne.symm hne) _).trans e2), h.P0, h.M0⟩, hg.os, hg.tape, hg.output, ?_, fun i hi hn => ?_⟩
 · rw [List.length_append]
   exact set3 (e1.trans h1)
 · rw [List.length_append]
   refine hou.same fun g hgo => hs g (fun e => ?_) _
   subst e
   obtain ⟨_, cs, h3⟩ := hou.tag hgo
   rw [e1, h1] at h3
   cases h3
 · have := hg.size
   simp [World.setCell] at this ⊢
   omega
 · have hiP : i ≠ P := fun e => hn (.inl e)
   rw [hs i hiP]
   refine grown_at hg hi fun e => hn (.inr (.inr ?_))
   obtain ⟨h3, cs, h4⟩ := h2.tag e
   exact ⟨h3, cs, h4⟩
set_option maxRecDepth 100000 in
set_option maxHeartbeats 4000000 in
theorem put_any {W : World} {B P M A : Nat} {vm : Value} {L : List Nat} {k c : Nat} {f : Int → Option Int} (h : MkB W B P M A vm L k f c) (hB : B ≤ W.heap.size) (hl : L.length ≤ 1000000) (x : Nat) :
   Calls Tryz.prog 101 #[.pointer (some ⟨P, 3, none⟩), .int .u64 (x : Int)] W fun e W' => e = .returned (.tuple #[]) ∧ MkB W' B P M A vm (L ++ [x]) k f c ∧ MC B P M W W' := by
 obtain ⟨th, tc, h1, h2⟩ := h.box
 obtain ⟨i0, hi0, hz0, hz1, hz2⟩ : ∃ i, Tryz.prog.info? 35 = some i ∧ i.zero = some (.int .u64 0) ∧ i.size = 1 ∧ i.bytes = 8 := by
   have h := info35U
   cases hi : Tryz.prog.info? 35 with
   | none => rw [hi] at h; cases h
   | some i => rw [hi] at h; simp at h; exact ⟨i, rfl, h.1, h.2.1, h.2.2⟩
 obtain ⟨c0, c1, c2, c3, c4⟩ := cell5_at h1
 have HB := hide h
 have H1 := hide h1
 have hOa := h2.alloc (.cells #[.int .u64 (x : Int)] 35)
 unfold OwnU at hOa
 have H2 := hide h2
 have hPl := h.lt.1
 obtain ⟨ln, hle⟩ : ∃ ln, L.length = ln := ⟨_, rfl⟩
 have HF := hide (fun (w1 : World) (g' cap' : Nat) hown hg => put_fin (w1 := w1) (x := x) (g' := g') (cap' := cap') (o := .cells #[.int .u64 (x : Int)] 35) h h1 h2 hown hg)
 rw [hle] at hOa hl c3 HF
 clear h h1 h2 hle
 go_enter Tryz.func101, Tryz.ntmps101
 go_wp2_with (at_builtin; (refine wpList_append_own_at _ rfl _ _ 43 rfl B 35 i0 (.int .u64 0) 1 8 Tryz.underlying43 hi0 hz0 hz1 hz2 rfl (by decide) _ _ _ rfl hOa ⟨W.heap.size, 0, none⟩ 1 1 [.int .u64 (x : Int)] rfl rfl (cell_one_new _ _ _) (by simp [Value.oneCell']) (by unfold maxLen; omega) (by omega) (by simp; omega) ?_; intro v1 w1 hown' hgrow _ hat; obtain ⟨g', cap', rfl⟩ := ownsRow_succ hown'; have hfin := HF.out w1 g' cap' hown' hgrow; have hm1 := hfin.1.trans H1.out; have hc3 := (cell5_at hm1).2.2.2.1; have hf3 : w1.frozen? ⟨P, 3, none⟩ = false := (U.frozen_at hm1); have HFIN := hide hfin.2; clear hfin hm1 hown' hgrow hat))
 exact bodyPost_end (v := .tuple #[]) (by simp [results, Tryz.results101, go_sem]) rfl ⟨rfl, HFIN.out⟩
set_option maxRecDepth 100000 in
set_option maxHeartbeats 4000000 in
theorem number_any {W : World} {B P M A : Nat} {vm : Value} {L : List Nat} {k : Nat} (h : MkB W B P M A vm L k (SB.fN L) L.length) (hB : B ≤ W.heap.size) (hl : L.length ≤ 900000) (x : Nat) (hx : x < 2 ^ 64) :
   Calls Tryz.prog 72 #[.pointer (some ⟨P, 0, none⟩), .int .u64 (x : Int)] W fun e W' => e = .returned (.int .i64 ((SB.num L x).idxOf x : Int)) ∧ MkB W' B P M A vm (SB.num L x) k (SB.fN (SB.num L x)) (SB.num L x).length ∧ MC B P M W W' := by
 obtain ⟨th, tc, h1, h2⟩ := h.box
 obtain ⟨c0, c1, c2, c3, c4⟩ := cell5_at h1
 have hlk := h.map.mp.lookOk Tryz.underlying35 Tryz.underlying146 Tryz.underlying3 (Tryz.zeroValue3 _) (x := (x : Int)) (wfU hx)
 rw [SB.fN_at] at hlk
 by_cases hm : x ∈ L
 · rw [if_pos hm] at hlk
   have HR : Hid ((SB.num L x) = L) := hide (if_pos hm)
   simp only [Option.getD_some, Option.isSome_some] at hlk
   obtain ⟨n, hn⟩ : ∃ n, L.idxOf x = n := ⟨_, rfl⟩
   rw [hn] at hlk
   have HN := hide hn
   have HH := hide h
   clear h h1 h2 hm hn
   go_enter Tryz.func72, Tryz.ntmps72
   go_wp2
   go_ret
   exact ⟨by rw [HR.out, HN.out]; rfl, by rw [HR.out]; exact HH.out, MC.refl _ _ _ _⟩
 · rw [if_neg hm] at hlk
   have HR : Hid ((SB.num L x) = L ++ [x]) := hide (if_neg hm)
   simp only [Option.getD_none, Option.isSome_none] at hlk
   have hlen := h.map.len 3
   obtain ⟨w1, hup, hmn, hg, hsz⟩ := h.map.store (by unfold maxLen; omega) (wfU hx) (wfI (m := L.length) (by omega)) (by rw [SB.fN_at, if_neg hm])
   rw [SB.fN_snoc L x hm] at hmn
   have hne := h.ne
   have hlt := h.lt
   have eo : ∀ i, i < W.heap.size → i ≠ M → w1.heap[i]? = W.heap[i]? := fun i hi hn => hg.block i hi (fun e => hn (by cases e; rfl))
   have hk : MkB w1 B P M A vm L k (SB.fN (L ++ [x])) (L.length + 1) := ⟨⟨th, tc, (eo P hlt.1 hne).trans h1, h2.same fun g hgo => by
     obtain ⟨_, cs, h3⟩ := h2.tag hgo
     refine eo g (Array.getElem?_eq_some_iff.1 h3).1 fun e => ?_
     subst e
     obtain ⟨D, ⟨es, cl, h4, _⟩, _⟩ := h.map
     rw [h4] at h3
     cases h3⟩, hmn, h.P0, h.M0⟩
   have hmc : MC B P M W w1 := ⟨hg.os, hg.tape, hg.output, hg.size, fun i hi hn => eo i hi fun e => hn (.inr (.inl e))⟩
   have hput := put_any hk (by omega) (by omega) x
   obtain ⟨d0, d1, d2, d3, d4⟩ := cell5_at ((eo P hlt.1 hne).trans h1)
   have HI : Hid (((L ++ [x]).idxOf x : Int) = (L.length : Int)) := hide (by rw [List.idxOf_append, if_neg hm]; simp)
   have HMC := hide hmc
   obtain ⟨ln, hle⟩ : ∃ ln, L.length = ln := ⟨_, rfl⟩
   rw [hle] at hlen hup c3 d3 hl HI
   have HLE := hide hle
   clear h h1 h2 hm hmn hg hsz eo hk hmc hne hlt hle
   go_enter Tryz.func72, Tryz.ntmps72
   go_wp2_with fail
   refine hput.mono ?_
   rintro e W2 ⟨rfl, hk2, hc2⟩
   have HK2 := hide hk2
   have HC2 := hide hc2
   clear hput hk2 hc2
   go_wp2
   go_ret
   exact ⟨by rw [HR.out, HI.out]; rfl, by rw [HR.out, List.length_append]; exact HK2.out, HMC.out.trans HC2.out⟩
end Go.Proofs.YtgngaldoemopjaaGreatDoor
namespace Go.Proofs.YtgngaldoemopjaaGreatDoor
open Go.RowKit Go.Shelf
attribute [local go_sem] Oper.semAt_some
theorem elemSize43 (w : World) : (sizeOf (Tryz.prog.elem 43)).run Tryz.prog w = .ok 1 w := by kernel_rfl
theorem MC.drewN {B P M : Nat} (W : World) (n : Nat) : MC B P M W (W.drewN n) := ⟨rfl, rfl, rfl, Nat.le_refl _, fun _ _ _ => rfl⟩
theorem MkB.drewN {W : World} {B P M A : Nat} {vm : Value} {L : List Nat} {k c : Nat} {f : Int → Option Int} (h : MkB W B P M A vm L k f c) (n : Nat) : MkB (W.drewN n) B P M A vm L k f c := h.kept rfl rfl fun _ _ _ _ => rfl
theorem MkB.took {W : World} {B P M A : Nat} {vm : Value} {L : List Nat} {k c : Nat} {f : Int → Option Int} (h : MkB W B P M A vm L k f c) : MkB (W.setCell ⟨P, 4, none⟩ (.int .i64 ((k + 1 : Nat) : Int))) B P M A vm L (k + 1) f c ∧ MC B P M W (W.setCell ⟨P, 4, none⟩ (.int .i64 ((k + 1 : Nat) : Int))) := by
 obtain ⟨th, tc, h1, h2⟩ := h.box
 have hs : ∀ i, i ≠ P → ∀ v, (W.setCell ⟨P, 4, none⟩ v).heap[i]? = W.heap[i]? := fun i hi v => Below.heap_setCell _ _ _ _ hi
 refine ⟨⟨⟨th, tc, set4 h1, h2.same fun g hg => hs g (fun e => ?_) _⟩, h.map.kept (hs M (Ne.symm h.ne) _), h.P0, h.M0⟩, rfl, rfl, rfl, by simp [World.setCell], fun i hi hn => hs i (fun e => hn (.inl e)) _⟩
 subst e
 obtain ⟨_, cs, h3⟩ := h2.tag hg
 rw [h1] at h3
 cases h3
theorem OwnU.at {W : World} {B : Nat} {th : Option Addr} {tc : Nat} {L : List Nat} (h : OwnU W B (.slice th L.length tc) L) (k : Nat) (hk : k < L.length) : ∃ g, th = some ⟨g, 0, none⟩ ∧ W.cell? ⟨g, k, none⟩ = some (.int .u64 (L[k] : Int)) ∧ (∃ cs, W.heap[g]? = some (.cells cs 35 (0, 0))) := by
 obtain ⟨_, ⟨e, h2⟩ | ⟨g, cap, cur, e, hb, hg, hn, hm, hs, ht⟩⟩ := h
 · omega
 · cases e
   refine ⟨g, rfl, ?_, cur, hg⟩
   have e : (cur.toList.take (L.length * 1))[k]? = (SB.u64s L)[k]? := by rw [ht]
   rw [Nat.mul_one, List.getElem?_take, if_pos hk, SB.u64s, List.getElem?_map, List.getElem?_eq_getElem hk] at e
   simp only [World.cell?, hg]
   rw [← Array.getElem?_toList]
   exact e
set_option maxRecDepth 100000 in
set_option maxHeartbeats 4000000 in
theorem take_none {W : World} {B P M A : Nat} {vm : Value} {L : List Nat} {c : Nat} {f : Int → Option Int} (h : MkB W B P M A vm L L.length f c) :
   Calls Tryz.prog 73 #[.pointer (some ⟨P, 3, none⟩)] W fun e W' => e = .returned (.tuple #[.int .u64 0, .bool false]) ∧ MkB W' B P M A vm L L.length f c ∧ MC B P M W W' := by
 obtain ⟨th, tc, h1, h2⟩ := h.box
 obtain ⟨c0, c1, c2, c3, c4⟩ := cell5_at h1
 have HH := hide h
 have hbe : ((L.length : Int) == (L.length : Int)) = true := by simp
 clear h h1 h2
 go_enter Tryz.func73, Tryz.ntmps73
 go_wp2_with fail
 go_quiet (fail)
 go_wp2
 exact bodyPost_ret (v := .tuple #[.int .u64 0, .bool false]) (by simp [results, Tryz.results73, go_sem]) rfl ⟨rfl, HH.out.drewN _, MC.drewN _ _⟩
set_option maxRecDepth 100000 in
set_option maxHeartbeats 4000000 in
theorem take_some {W : World} {B P M A : Nat} {vm : Value} {L : List Nat} {k c : Nat} {f : Int → Option Int} (h : MkB W B P M A vm L k f c) (hk : k < L.length) (hl : L.length ≤ 1000000) :
   Calls Tryz.prog 73 #[.pointer (some ⟨P, 3, none⟩)] W fun e W' => e = .returned (.tuple #[.int .u64 (L[k] : Int), .bool true]) ∧ MkB W' B P M A vm L (k + 1) f c ∧ MC B P M W W' := by
 obtain ⟨th, tc, h1, h2⟩ := h.box
 obtain ⟨g, rfl, hc, cs, hg⟩ := h2.at k hk
 obtain ⟨c0, c1, c2, c3, c4⟩ := cell5_at h1
 have es := elemSize43
 have hne : g ≠ P := by rintro rfl; rw [h1] at hg; cases hg
 have hbe : ((k : Int) == (L.length : Int)) = false := by simp; omega
 have hfz : W.frozen? ⟨P, 4, none⟩ = false := U.frozen_at h1
 have HH := hide h
 have H1 := hide h1
 generalize L[k] = x at *
 clear h h1 h2
 go_enter Tryz.func73, Tryz.ntmps73
 go_wp2_with fail
 go_quiet (fail)
 have hkX := HH.out.drewN nq
 have hmX := MC.drewN (B := B) (P := P) (M := M) W nq
 have e1 : (W.drewN nq).heap[P]? = W.heap[P]? := rfl
 have e2 : (W.drewN nq).heap[g]? = W.heap[g]? := rfl
 have e3 : (W.drewN nq).cell? ⟨g, k, none⟩ = W.cell? ⟨g, k, none⟩ := rfl
 rw [H1.out] at e1
 rw [hc] at e3
 rw [hg] at e2
 generalize W.drewN nq = X at *
 obtain ⟨hkT, hmT⟩ := hkX.took
 rw [show ((k + 1 : Nat) : Int) = (k : Int) + 1 by omega] at hkT hmT
 have f1 := set4 (v := .int .i64 ((k : Int) + 1)) e1
 have f2 : (X.setCell ⟨P, 4, none⟩ (.int .i64 ((k : Int) + 1))).cell? ⟨g, k, none⟩ = some (.int .u64 (x : Int)) := (World.cell?_of_block (w := X) (w' := X.setCell ⟨P, 4, none⟩ (.int .i64 ((k : Int) + 1))) (a := ⟨g, k, none⟩) (Below.heap_setCell _ _ _ _ hne)).trans e3
 obtain ⟨d0, d1, d2, d3, d4⟩ := cell5_at e1
 obtain ⟨b0, b1, b2, b3, b4⟩ := cell5_at f1
 have hfX : X.frozen? ⟨P, 4, none⟩ = false := U.frozen_at e1
 have HK := hide hkT
 have HM := hide (hmX.trans hmT)
 clear hkX hmX hkT hmT hc c0 c1 c2 c3 c4 hfz f1 e1 e2 e3
 go_wp2_with fail
 go_quiet (fail)
 go_wp2
 exact bodyPost_ret (v := .tuple #[.int .u64 (x : Int), .bool true]) (by simp [results, Tryz.results73, go_sem]) rfl ⟨rfl, HK.out.drewN _, HM.out.trans (MC.drewN _ _)⟩
end Go.Proofs.YtgngaldoemopjaaGreatDoor
namespace Go.Proofs.YtgngaldoemopjaaGreatDoor
open Go.RowKit Go.Shelf
attribute [local go_sem] Oper.semAt_some
theorem Reg.fa150 {w : World} {ρ : Operand → Value} {o : Oper} {x : Operand} {b off : Nat} (hop : o.op = .fieldAddr 150 x 0) (hx : ρ x = .pointer (some ⟨b, off, none⟩)) : (execOp ρ o).run Tryz.prog w = .ok (.value (.pointer (some ⟨b, off + 0, none⟩))) w := by
 obtain ⟨dst, op, type, pos, after, guard⟩ := o
 simp only at hop
 subst hop
 simp [execOp, hx, go_sem]
theorem Reg.orS {w : World} {ρ : Operand → Value} {o : Oper} {x y : Operand} {m n : Nat} (hop : o.op = .binOp .or 35 x y 35) (hx : ρ x = .int .u64 (m : Int)) (hy : ρ y = .int .u64 (n : Int)) (hm : m < 2 ^ 64) (hn : n < 2 ^ 64) : (execOp ρ o).run Tryz.prog w = .ok (.value (.int .u64 ((m ||| n : Nat) : Int))) w := by
 have e := bits_or_u64_nat m n hm hn
 obtain ⟨dst, op, type, pos, after, guard⟩ := o
 simp only at hop
 subst hop
 simp [execOp, hx, hy, eqGuard, go_sem, e]
namespace PA
theorem behind_bg {a : Au} (hl : a.pl.length ≤ 60) : behind a bg = a.w.f := by
 refine Nat.eq_of_testBit_eq fun j => ?_
 unfold behind
 rw [orL_bit, show bg.testBit 63 = true from by unfold bg; decide, if_pos rfl]
 have : ((List.range a.pl.length).any fun i => (if bg.testBit i = true then fol a i else 0).testBit j) = false := by
   rw [List.any_eq_false]
   intro i hi
   have hi' := List.mem_range.1 hi
   rw [show bg = 2 ^ 63 from rfl, Nat.testBit_two_pow]
   rw [if_neg (by simp; omega)]
   simp
 rw [this, Bool.or_false]
theorem behind_low {a : Au} (hl : a.pl.length ≤ 60) {m : Nat} (hm : m < 2 ^ a.pl.length) : behind a m = orL (fol a) (bits m) 0 := by
 have h63 : m.testBit 63 = false := Nat.testBit_lt_two_pow (Nat.lt_of_lt_of_le hm (Nat.pow_le_pow_right (by decide) (by omega)))
 refine Nat.eq_of_testBit_eq fun j => ?_
 unfold behind
 rw [orL_bit, orL_bit, h63]
 simp only [Bool.false_eq_true, if_false]
 congr 1
 rw [Bool.eq_iff_iff, List.any_eq_true, List.any_eq_true]
 constructor
 · rintro ⟨i, hi, h⟩
   have hi' := List.mem_range.1 hi
   cases hb : m.testBit i with
   | false => rw [hb] at h; simp at h
   | true => rw [hb] at h; exact ⟨i, mem_bits.2 ⟨by omega, hb⟩, h⟩
 · rintro ⟨i, hi, h⟩
   obtain ⟨h1, h2⟩ := mem_bits.1 hi
   refine ⟨i, List.mem_range.2 ?_, by rw [h2]; exact h⟩
   exact Nat.lt_of_not_le fun hn => by
     rw [Nat.testBit_lt_two_pow (Nat.lt_of_lt_of_le hm (Nat.pow_le_pow_right (by decide) hn))] at h2
     cases h2
end PA
set_option maxRecDepth 100000 in
set_option maxHeartbeats 4000000 in
theorem bhd_any {W : World} {B P M A : Nat} {vm : Value} {L : List Nat} {k c : Nat} {f : Int → Option Int} {a : PA.Au} (h : MkB W B P M A vm L k f c) (hl : a.pl.length ≤ 60) (hfl : ∀ i, PA.fol a i < 2 ^ 64)
   (c134 : ∀ W', Below W.heap.size W W' → Calls Tryz.prog 134 #[.pointer (some ⟨A, 0, none⟩)] W' fun e V => e = .returned (.int .u64 (a.w.f : Int)) ∧ V = W')
   (c77 : ∀ W', Below W.heap.size W W' → ∀ i, i < a.pl.length → Calls Tryz.prog 77 #[.pointer (some ⟨A, 0, none⟩), .int .i64 (i : Int)] W' fun e V => e = .returned (.int .u64 (PA.fol a i : Int)) ∧ V = W')
   (hd : ∀ W', Below W.heap.size W W' → Deb W') (m : Nat) (hm : m = PA.bg ∨ m < 2 ^ a.pl.length) :
   Calls Tryz.prog 102 #[.pointer (some ⟨P, 0, none⟩), .int .u64 (m : Int)] W fun e W' => e = .returned (.int .u64 (PA.behind a m : Int)) ∧ Below W.heap.size W W' := by
 obtain ⟨th, tc, h1, h2⟩ := h.box
 obtain ⟨c0, c1, c2, c3, c4⟩ := cell5_at h1
 have H1 := hide h1
 rcases hm with rfl | hm
 · have hcall := c134 W (Below.refl _ _)
   have HE := hide (PA.behind_bg hl)
   rw [show PA.bg = 9223372036854775808 from rfl] at HE ⊢
   rw [show ((9223372036854775808 : Nat) : Int) = 9223372036854775808 from rfl]
   clear h h1 h2 c77 hd c134 hfl hl
   go_enter Tryz.func102, Tryz.ntmps102
   go_wp2_with fail
   refine hcall.mono ?_
   rintro e W1 ⟨rfl, rfl⟩
   clear hcall
   go_wp2
   go_ret
   exact ⟨by rw [HE.out]; rfl, Below.refl _ _⟩
 · have hm64 : m < 2 ^ 64 := Nat.lt_of_lt_of_le hm (Nat.pow_le_pow_right (by decide) (by omega))
   have hm63 : m < 2 ^ 63 := Nat.lt_of_lt_of_le hm (Nat.pow_le_pow_right (by decide) (by omega))
   have hne : ((m : Int) == 9223372036854775808) = false := by simp; omega
   have HE := hide (PA.behind_low hl hm)
   have hlow : ∀ i ∈ PA.bits m, i < a.pl.length := fun i hi => by
     obtain ⟨_, h2⟩ := PA.mem_bits.1 hi
     exact Nat.lt_of_not_le fun hn => by
       rw [Nat.testBit_lt_two_pow (Nat.lt_of_lt_of_le hm (Nat.pow_le_pow_right (by decide) hn))] at h2
       cases h2
   have horl : ∀ l : List Nat, PA.orL (PA.fol a) l 0 < 2 ^ 64 := fun l => PA.orL_lt _ _ (Nat.two_pow_pos _) fun i _ => hfl i
   obtain ⟨bs, hbs⟩ : ∃ bs, PA.bits m = bs := ⟨_, rfl⟩
   rw [hbs] at HE hlow
   have hbl : bs.length ≤ 64 := by rw [← hbs]; exact PA.bits_len m
   have HBS := hide hbs
   clear h h1 h2 c134 hbs
   go_enter Tryz.func102, Tryz.ntmps102
   go_wp2
   go_loopw [5, 6] (fun p u wr => ∃ j o y : Nat, p = .int .u64 (o : Int) ∧ u = .int .u64 (y : Int) ∧ y < 2 ^ 64 ∧ j ≤ bs.length ∧ Hid (bs.drop j = PA.bits y) ∧ Hid (o = PA.orL (PA.fol a) (bs.take j) 0) ∧ Below W.heap.size W wr) (fun _ u _ => (intOf u).toNat)
   case atStart => exact ⟨0, 0, m, rfl, rfl, hm64, Nat.zero_le _, hide (by rw [List.drop_zero, HBS.out]), hide rfl, Below.refl _ _⟩
   case round =>
     obtain ⟨j, o, y, rfl, rfl, hy64, hj, HD, HO, hB⟩ := hrel
     by_cases hy : y = 0
     · subst hy
       have HF : Hid (o = PA.behind a m) := hide (by
         have h1 := HD.out
         rw [PA.bits_zero, List.drop_eq_nil_iff] at h1
         rw [HE.out, HO.out, List.take_of_length_le h1])
       clear c77 hd hfl hl HD HO HE
       go_wp2
       go_ret
       exact ⟨by rw [HF.out]; rfl, hB⟩
     · have hc := PA.bits_cons hy hy64
       have hjl : j < bs.length := by
         refine Nat.lt_of_not_le fun hn => ?_
         have h1 := HD.out
         rw [List.drop_eq_nil_of_le hn, hc] at h1
         cases h1
       have hd1 : bs.drop j = bs[j] :: bs.drop (j + 1) := List.drop_eq_getElem_cons hjl
       have h3 := HD.out
       rw [hd1, hc] at h3
       obtain ⟨h4, h5⟩ := List.cons.inj h3
       have hbx : Below W.heap.size W wr.drew := ⟨hB.os, hB.tape, hB.output, hB.size, hB.block⟩
       have htz := tz_any y hy64 hy wr.drew (hd _ hbx)
       have hfo := c77 wr.drew hbx (Lib.ctz 64 y) (by rw [← h4]; exact hlow _ (List.getElem_mem hjl))
       have ho : o < 2 ^ 64 := by rw [HO.out]; exact horl _
       have hq0 := hfl (Lib.ctz 64 y)
       have HN : Hid (o ||| PA.fol a (Lib.ctz 64 y) = PA.orL (PA.fol a) (bs.take (j + 1)) 0) := hide (by
         rw [List.take_succ_eq_append_getElem hjl, PA.orL_snoc, ← HO.out, h4])
       obtain ⟨q, hq1⟩ : ∃ q, PA.fol a (Lib.ctz 64 y) = q := ⟨_, rfl⟩
       rw [hq1] at hfo hq0 HN
       have hq := hq0
       have kx : ∀ w', Below wr.heap.size wr.drew w' → w'.cell? ⟨P, 0 + 0, none⟩ = some (.pointer (some ⟨A, 0, none⟩)) := fun w' hb => (cell5_at ((hb.block P (by have := hB.size; have := (Array.getElem?_eq_some_iff.1 H1.out).1; show P < wr.heap.size; omega)).trans ((hB.block P (Array.getElem?_eq_some_iff.1 H1.out).1).trans H1.out))).1
       have hsub : IntKind.u64.wrap ((y : Int) - 1) = ((y - 1 : Nat) : Int) := by
         rw [show ((y : Int) - 1) = ((y - 1 : Nat) : Int) by omega]
         exact IntWalk.u64_in _ ⟨by omega, by omega⟩
       have hand := bits_and_u64_nat y (y - 1) hy64 (by omega)
       have hlt : y &&& (y - 1) < y := by
         have : y &&& (y - 1) ≤ y - 1 := Nat.and_le_right
         omega
       obtain ⟨z, hz⟩ : ∃ z, y &&& (y - 1) = z := ⟨_, rfl⟩
       rw [hz] at hand h5 hlt
       obtain ⟨y1, hy1⟩ : ∃ y1, y - 1 = y1 := ⟨_, rfl⟩
       rw [hy1] at hand hsub
       have H5 := hide h5
       have hyb : ((y : Int) == 0) = false := by simp [hy]
       clear hc hd1 h3 h4 h5 hq1 hz hy1 hlow horl
       go_wp2
       refine U.Reg.start (B := wr.heap.size) (by kernel_rfl) ?_
       refine U.Reg.take (fun _ _ _ _ _ h => h) 0 _ 21 (.int .u64 (o : Int)) rfl (by kernel_rfl) (by kernel_rfl) (by kernel_rfl) rfl (by kernel_rfl) (by kernel_rfl) (fun _ _ => U.Reg.mv rfl rfl) ?_
       refine U.Reg.take (fun _ _ _ _ _ h => h) 1 _ 22 (.pointer (some ⟨P, 0, none⟩)) rfl (by kernel_rfl) (by kernel_rfl) (by kernel_rfl) rfl (by kernel_rfl) (by kernel_rfl) (fun _ _ => U.Reg.mv rfl rfl) ?_
       refine U.Reg.take (fun _ _ _ _ _ h => h) 2 _ 23 (.pointer (some ⟨P, 0, none⟩)) rfl (by kernel_rfl) (by kernel_rfl) (by kernel_rfl) rfl (by kernel_rfl) (by kernel_rfl) (fun _ _ => U.Reg.nc rfl rfl) ?_
       refine U.Reg.take (fun _ _ _ _ _ h => h) 3 _ 24 (.pointer (some ⟨P, 0 + 0, none⟩)) rfl (by kernel_rfl) (by kernel_rfl) (by kernel_rfl) rfl (by kernel_rfl) (by kernel_rfl) (fun _ _ => Reg.fa150 rfl rfl) ?_
       refine U.Reg.take (fun _ _ _ _ _ h => h) 4 _ 25 (.pointer (some ⟨A, 0, none⟩)) rfl (by kernel_rfl) (by kernel_rfl) (by kernel_rfl) rfl (by kernel_rfl) (by kernel_rfl) (fun w' hb => U.Reg.ld1 rfl rfl (kx w' hb) (Tryz.isAgg52 _)) ?_
       refine U.Reg.take (fun _ _ _ _ _ h => h) 5 _ 26 (.int .u64 (y : Int)) rfl (by kernel_rfl) (by kernel_rfl) (by kernel_rfl) rfl (by kernel_rfl) (by kernel_rfl) (fun _ _ => U.Reg.mv rfl rfl) ?_
       refine U.Reg.call 6 _ 27 79 _ _ #[.int .u64 (y : Int)] rfl (by kernel_rfl) rfl (by kernel_rfl) (by kernel_rfl) rfl (by kernel_rfl) (by kernel_rfl) (htz) ?_
       rintro e w2 ⟨rfl, rfl⟩
       refine ⟨_, wr.heap.size, rfl, Nat.le_refl _, Below.refl _ _, ?_⟩
       refine U.Reg.call 7 _ 28 77 _ _ #[.pointer (some ⟨A, 0, none⟩), .int .i64 (Lib.ctz 64 y : Int)] rfl (by kernel_rfl) rfl (by kernel_rfl) (by kernel_rfl) rfl (by kernel_rfl) (by kernel_rfl) (hfo) ?_
       rintro e w3 ⟨rfl, rfl⟩
       refine ⟨_, wr.heap.size, rfl, Nat.le_refl _, Below.refl _ _, ?_⟩
       refine U.Reg.take (fun _ _ _ _ _ h => h) 8 _ 29 (.int .u64 ((o ||| q : Nat) : Int)) rfl (by kernel_rfl) (by kernel_rfl) (by kernel_rfl) rfl (by kernel_rfl) (by kernel_rfl) (fun _ _ => Reg.orS rfl rfl rfl ho hq) ?_
       refine U.Reg.take (fun _ _ _ _ _ h => h) 9 _ 5 (.int .u64 ((o ||| q : Nat) : Int)) rfl (by kernel_rfl) (by kernel_rfl) (by kernel_rfl) rfl (by kernel_rfl) (by kernel_rfl) (fun _ _ => by kernel_rfl) ?_
       refine U.Reg.done (by kernel_rfl) ?_
       simp only [U.Reg.ov, Act.put, List.setIfInBounds_toArray, List.set_cons_succ, List.set_cons_zero]
       clear htz hfo kx hq0
       go_wp2
       go_roundw
       case rel => exact ⟨j + 1, o ||| q, z, rfl, rfl, by omega, by omega, H5, HN, hbx⟩
       case measure => simp [intOf] <;> omega
end Go.Proofs.YtgngaldoemopjaaGreatDoor
