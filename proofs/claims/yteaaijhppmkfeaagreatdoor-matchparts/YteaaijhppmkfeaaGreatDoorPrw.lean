/- MatchParts. -/
import Derived.Test.YteaaijhppmkfeaaGreatDoorCmp
import Derived.Test.YteaaijhppmkfeaaGreatDoorCnt
import Derived.BigQuiet
namespace Go.Proofs.YteaaijhppmkfeaaGreatDoor
open Go.RowKit Go.Shelf
open E (Ps Rx T rxOf Vp)
theorem parts_cat {ta tb : T} {xs : List Int} {p : Bool} (h1 : E.PlainP (t2 4 ta tb)) (hp : p = true ↔ ∃ j, j < xs.length + 1 ∧ AllP ta (xs.take j) ∧ AllP tb (xs.drop j)) (hpa : E.PlainP ta) (hpb : E.PlainP tb) (b : Bool) (hb : b = true ↔ AllP (t2 4 ta tb) xs) : b = p := by
  have : AllP (t2 4 ta tb) xs ↔ ∃ j, j < xs.length + 1 ∧ AllP ta (xs.take j) ∧ AllP tb (xs.drop j) := by
    unfold AllP
    rw [L_cat, cut_iff]
    exact ⟨fun ⟨_, i, h, h2, h3⟩ => ⟨i, by omega, ⟨hpa, h2⟩, hpb, h3⟩, fun ⟨i, h, h2, h3⟩ => ⟨h1, i, by omega, h2.2, h3.2⟩⟩
  rw [Bool.eq_iff_iff, hb, this, hp]
theorem plus_iff8 {ta : T} {xs : List Int} (h4 : E.PlainP (t1 7 ta)) (h3 : E.PlainP (t1 6 ta)) (hpa : E.PlainP ta) : AllP (t1 7 ta) xs ↔ ∃ j, j < xs.length + 1 ∧ AllP ta (xs.take j) ∧ AllP (t1 6 ta) (xs.drop j) := by
  unfold AllP
  rw [L_plus, cut_iff]
  exact ⟨fun ⟨_, i, h, h2, h5⟩ => ⟨i, by omega, ⟨hpa, h2⟩, h3, (L_star _ _).2 h5⟩, fun ⟨i, h, h2, h5⟩ => ⟨h4, i, by omega, h2.2, (L_star _ _).1 h5.2⟩⟩
theorem parts_plus {ta : T} {xs : List Int} {q : Bool} (h4 : E.PlainP (t1 7 ta)) (h3 : E.PlainP (t1 6 ta)) (hq : q = true ↔ ∃ j, j < xs.length + 1 ∧ AllP ta (xs.take j) ∧ AllP (t1 6 ta) (xs.drop j)) (hpa : E.PlainP ta) (b : Bool) (hb : b = true ↔ AllP (t1 7 ta) xs) : b = q := by
  rw [Bool.eq_iff_iff, hb, plus_iff8 h4 h3 hpa, hq]
theorem parts_star {ta : T} {xs : List Int} {q : Bool} (h4 : E.PlainP (t1 7 ta)) (h3 : E.PlainP (t1 6 ta)) (hq : q = true ↔ ∃ j, j < xs.length + 1 ∧ AllP ta (xs.take j) ∧ AllP (t1 6 ta) (xs.drop j)) (hpa : E.PlainP ta) (b : Bool) (hb : b = true ↔ AllP (t1 6 ta) xs) : b = (q || decide (xs.length = 0)) := by
  rw [Bool.eq_iff_iff, Bool.or_eq_true, hb, hq, ← plus_iff8 h4 h3 hpa, decide_eq_true_iff]
  unfold AllP
  rw [L_plus, L_star, star_iff, List.length_eq_zero_iff]
  exact ⟨fun ⟨_, h⟩ => h.imp (fun h => ⟨h4, h⟩) id, fun h => ⟨h3, h.imp (fun h => h.2) id⟩⟩
theorem parts_alt {ta tb : T} {xs : List Int} (h2 : E.PlainP (t2 5 ta tb)) (hpa : E.PlainP ta) (hpb : E.PlainP tb) (a b c : Bool) (ha : a = true ↔ AllP ta xs) (hb : b = true ↔ AllP tb xs) (hc : c = true ↔ AllP (t2 5 ta tb) xs) : c = (a || b) := by
  rw [Bool.eq_iff_iff, Bool.or_eq_true, hc, ha, hb]
  unfold AllP
  rw [L_alt]
  exact ⟨fun ⟨_, h⟩ => h.imp (fun h => ⟨hpa, h⟩) (fun h => ⟨hpb, h⟩), fun h => ⟨h2, h.imp (fun h => h.2) (fun h => h.2)⟩⟩
theorem parts_alt2 {ta tb : T} {xs : List Int} (h2 : E.PlainP (t2 5 ta tb)) (c : Bool) (ha : AllP ta xs) (hc : c = true ↔ AllP (t2 5 ta tb) xs) : c = true := hc.2 ⟨h2, (L_alt _ _ _).2 (.inl ha.2)⟩
theorem parts_opt {ta : T} {xs : List Int} (h5 : E.PlainP (t1 8 ta)) (hpa : E.PlainP ta) (a c : Bool) (ha : a = true ↔ AllP ta xs) (hc : c = true ↔ AllP (t1 8 ta) xs) : c = (a || decide (xs.length = 0)) := by
  rw [Bool.eq_iff_iff, Bool.or_eq_true, hc, ha, decide_eq_true_iff]
  unfold AllP
  rw [L_opt, List.length_eq_zero_iff]
  exact ⟨fun ⟨_, h⟩ => h.elim .inr (fun h => .inl ⟨hpa, h⟩), fun h => ⟨h5, h.elim (fun h => .inr h.2) .inl⟩⟩
theorem step_or (ta : T) (xs : List Int) (i : Nat) (P : List Int → Prop) (b p : Bool) (hp : p = true ↔ ∃ j, j < i ∧ AllP ta (xs.take j) ∧ P (xs.drop j)) (hb : AllP ta (xs.take i) → (b = true ↔ P (xs.drop i))) (hn : ¬ AllP ta (xs.take i) → b = false) : (p || b) = true ↔ ∃ j, j < i + 1 ∧ AllP ta (xs.take j) ∧ P (xs.drop j) := by
  rw [Bool.or_eq_true]
  constructor
  · rintro (h | h)
    · obtain ⟨j, h1, h2⟩ := hp.1 h
      exact ⟨j, by omega, h2⟩
    · by_cases hA : AllP ta (xs.take i)
      · exact ⟨i, by omega, hA, (hb hA).1 h⟩
      · rw [hn hA] at h; cases h
  · rintro ⟨j, h1, h2, h3⟩
    by_cases e : j = i
    · subst e; exact .inr ((hb h2).2 h3)
    · exact .inl (hp.2 ⟨j, by omega, h2, h3⟩)
theorem run_eqB (a b : Bool) (w : World) : Sem.run Tryz.prog (binOp BinOp.eql 4 (Value.bool a) (Value.bool b)) w = .ok (.bool (a == b)) w := by cases a <;> cases b <;> kernel_rfl
theorem run_len44 (a : Option Addr) (n c : Nat) (w : World) : Sem.run Tryz.prog (Builtin.len_ #[44] 3 #[Value.slice a n c]) w = .ok (.int .i64 (n : Int)) w := by kernel_rfl
attribute [local go_sem] Oper.semAt_some run_eqB run_len44
section
open U.Reg
variable {P : Program} {ops : Array Oper} {Q : Exit → Act → World → Prop} {a : Act} {B fuel : Nat} {ks : List Nat} {l : List (Nat × Value)} {w : World}
theorem tk (i d : Nat) (v : Value) {o : Oper} (hi : ops[i]? = some o) (hy : ∀ w', Below B w w' → (execOp (ev a l) o).run P w' = .ok (.value v) w') (h : G P ops Q a B fuel (i :: ks) ((d, v) :: l) w)
    (hQ : ∀ c (a : Act) (d : Nat) v w, Q (.panic c) (a.put (some d) v) w → Q (.panic c) a w := by exact fun _ _ _ _ _ h => h) (hs : Region.noSelect ops = true := by kernel_rfl) (hf : Region.free .any ops (lst ops.size ks) i = true := by kernel_rfl)
    (hr : (Region.ready .any ops (lst ops.size ks)).contains i = true := by kernel_rfl) (hd : o.dst = some d := by rfl) (hb : inB a l = true := by kernel_rfl) (hw : wantB ops a l o = true := by kernel_rfl) : G P ops Q a B (fuel + 1) ks l w :=
  U.Reg.take hQ i o d v hi hs hf hr hd hb hw hy h
theorem sk (i d : Nat) {o : Oper} (hi : ops[i]? = some o) (h : G P ops Q a B fuel (i :: ks) ((d, undef) :: l) w)
    (hQ : ∀ c (a : Act) (d : Nat) v w, Q (.panic c) (a.put (some d) v) w → Q (.panic c) a w := by exact fun _ _ _ _ _ h => h) (hs : Region.noSelect ops = true := by kernel_rfl) (hf : Region.free .any ops (lst ops.size ks) i = true := by kernel_rfl)
    (hr : (Region.ready .any ops (lst ops.size ks)).contains i = true := by kernel_rfl) (hd : o.dst = some d := by rfl) (hb : inB a l = true := by kernel_rfl) (hw : nowB ops a l o = true := by kernel_rfl) : G P ops Q a B (fuel + 1) ks l w :=
  U.Reg.skip hQ i o d hi hs hf hr hd hb hw h
theorem on (i d : Nat) (v : Value) {o : Oper} (hi : ops[i]? = some o) (h : G P ops Q a B fuel (i :: ks) ((d, v) :: l) w) (hy : (execOp (ev a l) o).run P w = .ok (.value v) w := by kernel_rfl)
    (hr : Region.ready .any ops (lst ops.size ks) = [i] := by kernel_rfl) (hd : o.dst = some d := by rfl) (hb : inB a l = true := by kernel_rfl) (hw : wantB ops a l o = true := by kernel_rfl) : G P ops Q a B (fuel + 1) ks l w :=
  U.Reg.only i o d hi hr hd hb hw ⟨v, w, B, hy, Nat.le_refl _, Below.refl _ _, h⟩
theorem cl (i d f : Nat) (vs : Array Value) {o : Oper} {xs : Array Operand} {ats : Array TypeId} (hi : ops[i]? = some o) (hop : o.op = .call { callee := .value (.func f), args := xs, argTypes := ats })
    {R : Ending → World → Prop} (hc : Calls P f vs w R) (hR : ∀ e w', R e w' → ∃ v, e = .returned v ∧ Below B w w' ∧ G P ops Q a B fuel (i :: ks) ((d, v) :: l) w') (hr : Region.ready .any ops (lst ops.size ks) = [i] := by kernel_rfl) (hd : o.dst = some d := by rfl) (hb : inB a l = true := by kernel_rfl) (hw : wantB ops a l o = true := by kernel_rfl)
    (hvs : #[] ++ xs.map (ev a l) ++ #[] = vs := by kernel_rfl) (hent : (callFunc f vs).run P w = .ok (.enter f vs) w := by kernel_rfl) : G P ops Q a B (fuel + 1) ks l w :=
  U.Reg.call i o d f xs ats vs hi hr hd hb hw hop hvs hent hc (fun e w' h => let ⟨v, h1, h2, h3⟩ := hR e w' h; ⟨v, B, h1, Nat.le_refl _, h2, h3⟩)
end
/-- The cells of a node. -/
def bxN (d : ND) : Obj := .cells #[.int .i64 d.k, .int .i64 d.a, .slice d.sp d.sl d.sc, .string d.n, .slice d.kp d.kl d.kc] 26
/-- What lies there from the call's start on: two nodes in boxes. -/
structure St2 (w : World) (da db : ND) (X : World) : Prop where
  bel : Below w.heap.size w X
  ba : X.heap[w.heap.size]? = some (bxN da)
  bb : X.heap[w.heap.size + 1]? = some (bxN db)
theorem St2.nx {w X Y : World} {da db : ND} (h : St2 w da db X) (hb : Below X.heap.size X Y) : St2 w da db Y :=
  ⟨Go.Proofs.YteaaijhppmkfeaaGreatDoor.nx h.bel hb, (hb.block _ (Array.getElem?_eq_some_iff.1 h.ba).1).trans h.ba, (hb.block _ (Array.getElem?_eq_some_iff.1 h.bb).1).trans h.bb⟩
theorem names8_any (t : T) (d : ND) (w : World) (hT : TR w (fun _ => True) t d.v) (hps : (E.pre t t).length ≤ 1000000) (hI : E.IsP t) :
    Calls Tryz.prog 24 #[d.v] w fun e W' => ∃ ao cap, ∃ n : Nat, e = .returned (.slice ao n cap) ∧ Hid (n = 0 ↔ E.PlainP t) ∧ Below w.heap.size w W' :=
  (names_any t d w hT hps hI.names).mono fun e W' ⟨u, he, ho, hb⟩ => by
    obtain ⟨ao, cap, rfl⟩ : ∃ ao cap, u = .slice ao (E.nmL t).length cap := by
      obtain ⟨_, ⟨e, h⟩ | ⟨g, cap, cur, e, _⟩⟩ := ho
      · exact ⟨none, 0, by rw [e, h]⟩
      · exact ⟨_, _, e⟩
    exact ⟨ao, cap, _, he, hide ((E.nmL_nil t).trans ⟨fun h => ⟨hI, h⟩, fun h => h.2⟩), hb⟩
theorem mk2R (k : Int) (da db : ND) (ta tb : T) (w : World) (n : Nat) (hn : w.heap.size = n) (hTa : TR w (fun _ => True) ta da.v) (hTb : TR w (fun _ => True) tb db.v) :
    TR ((w.alloc (.cells #[.int .i64 da.k, .int .i64 da.a, .slice da.sp da.sl da.sc, .string da.n, .slice da.kp da.kl da.kc, .int .i64 db.k, .int .i64 db.a, .slice db.sp db.sl db.sc, .string db.n, .slice db.kp db.kl db.kc] 26)).alloc (.cells #[.int .i64 k, .int .i64 0, .slice none 0 0, .string ⟨#[]⟩, .slice (some ⟨n, 0, none⟩) 2 2] 26)) (fun _ => True) (t2 k ta tb) (⟨k, 0, none, 0, 0, ⟨#[]⟩, some ⟨n, 0, none⟩, 2, 2⟩ : ND).v ∧
    ((w.alloc (.cells #[.int .i64 da.k, .int .i64 da.a, .slice da.sp da.sl da.sc, .string da.n, .slice da.kp da.kl da.kc, .int .i64 db.k, .int .i64 db.a, .slice db.sp db.sl db.sc, .string db.n, .slice db.kp db.kl db.kc] 26)).alloc (.cells #[.int .i64 k, .int .i64 0, .slice none 0 0, .string ⟨#[]⟩, .slice (some ⟨n, 0, none⟩) 2 2] 26)).heap[n + 1]? = some (.cells #[.int .i64 k, .int .i64 0, .slice none 0 0, .string ⟨#[]⟩, .slice (some ⟨n, 0, none⟩) 2 2] 26) ∧
    Below w.heap.size w ((w.alloc (.cells #[.int .i64 da.k, .int .i64 da.a, .slice da.sp da.sl da.sc, .string da.n, .slice da.kp da.kl da.kc, .int .i64 db.k, .int .i64 db.a, .slice db.sp db.sl db.sc, .string db.n, .slice db.kp db.kl db.kc] 26)).alloc (.cells #[.int .i64 k, .int .i64 0, .slice none 0 0, .string ⟨#[]⟩, .slice (some ⟨n, 0, none⟩) 2 2] 26)) ∧
    ((w.alloc (.cells #[.int .i64 da.k, .int .i64 da.a, .slice da.sp da.sl da.sc, .string da.n, .slice da.kp da.kl da.kc, .int .i64 db.k, .int .i64 db.a, .slice db.sp db.sl db.sc, .string db.n, .slice db.kp db.kl db.kc] 26)).alloc (.cells #[.int .i64 k, .int .i64 0, .slice none 0 0, .string ⟨#[]⟩, .slice (some ⟨n, 0, none⟩) 2 2] 26)).heap.size = n + 1 + 1 := by
  subst hn
  obtain ⟨o1, ho1⟩ : ∃ o1, Obj.cells #[.int .i64 da.k, .int .i64 da.a, .slice da.sp da.sl da.sc, .string da.n, .slice da.kp da.kl da.kc, .int .i64 db.k, .int .i64 db.a, .slice db.sp db.sl db.sc, .string db.n, .slice db.kp db.kl db.kc] 26 = o1 := ⟨_, rfl⟩
  obtain ⟨o2, ho2⟩ : ∃ o2, Obj.cells #[.int .i64 k, .int .i64 0, .slice none 0 0, .string ⟨#[]⟩, .slice (some ⟨w.heap.size, 0, none⟩) 2 2] 26 = o2 := ⟨_, rfl⟩
  rw [ho1, ho2]
  have a1 := al1 w o1
  have n1 := heap_alloc_new w o1
  have a2 := al1 (w.alloc o1) o2
  have n2 := heap_alloc_new (w.alloc o1) o2
  rw [World.size_alloc] at n2
  have m1 := (a2.block w.heap.size (by simp)).trans n1
  have bA := nx a1 a2
  have hA := TR.later (fun j hj => bA.block j hj) _ hTa
  have hB := TR.later (fun j hj => bA.block j hj) _ hTb
  refine ⟨?_, n2, bA, by simp⟩
  have m2 : ((w.alloc o1).alloc o2).heap[w.heap.size]? = some (.cells #[.int .i64 da.k, .int .i64 da.a, .slice da.sp da.sl da.sc, .string da.n, .slice da.kp da.kl da.kc, .int .i64 db.k, .int .i64 db.a, .slice db.sp db.sl db.sc, .string db.n, .slice db.kp db.kl db.kc] 26) := m1.trans (congrArg some ho1.symm)
  have qq : ∀ (j : Nat) (u : Value), (#[.int .i64 da.k, .int .i64 da.a, .slice da.sp da.sl da.sc, .string da.n, .slice da.kp da.kl da.kc, .int .i64 db.k, .int .i64 db.a, .slice db.sp db.sl db.sc, .string db.n, .slice db.kp db.kl db.kc] : Array Value)[j]? = some u → ((w.alloc o1).alloc o2).cell? ⟨w.heap.size, j, none⟩ = some u := fun j u hu => by
    unfold World.cell?
    rw [show (⟨w.heap.size, j, none⟩ : Addr).block = w.heap.size from rfl, m2]
    exact hu
  rw [t2, TR]
  refine ⟨none, 0, _, 2, rfl, U.rdr_nil _ _, Nat.le_refl _, ?_⟩
  rw [KR, KR, KR]
  exact ⟨⟨_, _, _, rfl, trivial, hA, _, _, _, _, _, rfl, qq 0 _ rfl, qq 1 _ rfl, qq 2 _ rfl, qq 3 _ rfl, qq 4 _ rfl⟩, ⟨_, _, _, rfl, trivial, hB, _, _, _, _, _, rfl, qq 5 _ rfl, qq 6 _ rfl, qq 7 _ rfl, qq 8 _ rfl, qq 9 _ rfl⟩, trivial⟩
theorem mk1R (k : Int) (da : ND) (ta : T) (w : World) (n : Nat) (hn : w.heap.size = n) (hTa : TR w (fun _ => True) ta da.v) :
    TR ((w.alloc (.cells #[.int .i64 da.k, .int .i64 da.a, .slice da.sp da.sl da.sc, .string da.n, .slice da.kp da.kl da.kc] 26)).alloc (.cells #[.int .i64 k, .int .i64 0, .slice none 0 0, .string ⟨#[]⟩, .slice (some ⟨n, 0, none⟩) 1 1] 26)) (fun _ => True) (t1 k ta) (⟨k, 0, none, 0, 0, ⟨#[]⟩, some ⟨n, 0, none⟩, 1, 1⟩ : ND).v ∧
    ((w.alloc (.cells #[.int .i64 da.k, .int .i64 da.a, .slice da.sp da.sl da.sc, .string da.n, .slice da.kp da.kl da.kc] 26)).alloc (.cells #[.int .i64 k, .int .i64 0, .slice none 0 0, .string ⟨#[]⟩, .slice (some ⟨n, 0, none⟩) 1 1] 26)).heap[n + 1]? = some (.cells #[.int .i64 k, .int .i64 0, .slice none 0 0, .string ⟨#[]⟩, .slice (some ⟨n, 0, none⟩) 1 1] 26) ∧
    Below w.heap.size w ((w.alloc (.cells #[.int .i64 da.k, .int .i64 da.a, .slice da.sp da.sl da.sc, .string da.n, .slice da.kp da.kl da.kc] 26)).alloc (.cells #[.int .i64 k, .int .i64 0, .slice none 0 0, .string ⟨#[]⟩, .slice (some ⟨n, 0, none⟩) 1 1] 26)) ∧
    ((w.alloc (.cells #[.int .i64 da.k, .int .i64 da.a, .slice da.sp da.sl da.sc, .string da.n, .slice da.kp da.kl da.kc] 26)).alloc (.cells #[.int .i64 k, .int .i64 0, .slice none 0 0, .string ⟨#[]⟩, .slice (some ⟨n, 0, none⟩) 1 1] 26)).heap.size = n + 1 + 1 := by
  subst hn
  obtain ⟨o1, ho1⟩ : ∃ o1, Obj.cells #[.int .i64 da.k, .int .i64 da.a, .slice da.sp da.sl da.sc, .string da.n, .slice da.kp da.kl da.kc] 26 = o1 := ⟨_, rfl⟩
  obtain ⟨o2, ho2⟩ : ∃ o2, Obj.cells #[.int .i64 k, .int .i64 0, .slice none 0 0, .string ⟨#[]⟩, .slice (some ⟨w.heap.size, 0, none⟩) 1 1] 26 = o2 := ⟨_, rfl⟩
  rw [ho1, ho2]
  have a1 := al1 w o1
  have n1 := heap_alloc_new w o1
  have a2 := al1 (w.alloc o1) o2
  have n2 := heap_alloc_new (w.alloc o1) o2
  rw [World.size_alloc] at n2
  have m1 := (a2.block w.heap.size (by simp)).trans n1
  have bA := nx a1 a2
  have hA := TR.later (fun j hj => bA.block j hj) _ hTa
  refine ⟨?_, n2, bA, by simp⟩
  have m2 : ((w.alloc o1).alloc o2).heap[w.heap.size]? = some (.cells #[.int .i64 da.k, .int .i64 da.a, .slice da.sp da.sl da.sc, .string da.n, .slice da.kp da.kl da.kc] 26) := m1.trans (congrArg some ho1.symm)
  obtain ⟨q0, q1, q2, q3, q4⟩ := cells_five m2
  rw [t1, TR]
  refine ⟨none, 0, _, 1, rfl, U.rdr_nil _ _, Nat.le_refl _, ?_⟩
  rw [KR, KR]
  exact ⟨⟨_, _, _, rfl, trivial, hA, _, _, _, _, _, rfl, q0, q1, q2, q3, q4⟩, trivial⟩
theorem cells_bx {w : World} {b : Nat} {d : ND} (h : w.heap[b]? = some (bxN d)) : w.cell? ⟨b, 0, none⟩ = some (.int .i64 d.k) ∧ w.cell? ⟨b, 1, none⟩ = some (.int .i64 d.a) ∧ w.cell? ⟨b, 2, none⟩ = some (.slice d.sp d.sl d.sc) ∧ w.cell? ⟨b, 3, none⟩ = some (.string d.n) ∧ w.cell? ⟨b, 4, none⟩ = some (.slice d.kp d.kl d.kc) := cells_five h
/-- A node that was made of others. -/
def ndK (k : Int) (n m : Nat) : ND := ⟨k, 0, none, 0, 0, ⟨#[]⟩, some ⟨n, 0, none⟩, m, m⟩
/-- What lies there behind the making: the five nodes too. -/
structure St7 (w : World) (da db : ND) (ta tb : T) (n : Nat) (X : World) : Prop where
  s : St2 w da db X
  b1 : X.heap[n + 1]? = some (bxN (ndK 4 n 2))
  b2 : X.heap[n + 1 + 1 + 1]? = some (bxN (ndK 5 (n + 1 + 1) 2))
  b3 : X.heap[n + 1 + 1 + 1 + 1 + 1]? = some (bxN (ndK 6 (n + 1 + 1 + 1 + 1) 1))
  b4 : X.heap[n + 1 + 1 + 1 + 1 + 1 + 1 + 1]? = some (bxN (ndK 7 (n + 1 + 1 + 1 + 1 + 1 + 1) 1))
  b5 : X.heap[n + 1 + 1 + 1 + 1 + 1 + 1 + 1 + 1 + 1]? = some (bxN (ndK 8 (n + 1 + 1 + 1 + 1 + 1 + 1 + 1 + 1) 1))
  u1 : TR X (fun _ => True) (t2 4 ta tb) (ndK 4 n 2).v
  u2 : TR X (fun _ => True) (t2 5 ta tb) (ndK 5 (n + 1 + 1) 2).v
  u3 : TR X (fun _ => True) (t1 6 ta) (ndK 6 (n + 1 + 1 + 1 + 1) 1).v
  u4 : TR X (fun _ => True) (t1 7 ta) (ndK 7 (n + 1 + 1 + 1 + 1 + 1 + 1) 1).v
  u5 : TR X (fun _ => True) (t1 8 ta) (ndK 8 (n + 1 + 1 + 1 + 1 + 1 + 1 + 1 + 1) 1).v
theorem bx_later {X Y : World} {b : Nat} {o : Obj} (h : X.heap[b]? = some o) (hb : Below X.heap.size X Y) : Y.heap[b]? = some o := (hb.block _ (Array.getElem?_eq_some_iff.1 h).1).trans h
theorem tr_later {X Y : World} {t : T} {v : Value} (h : TR X (fun _ => True) t v) (hb : Below X.heap.size X Y) : TR Y (fun _ => True) t v := TR.later (fun k hk => hb.block k hk) _ h
theorem St7.nx {w X Y : World} {da db : ND} {ta tb : T} {n : Nat} (h : St7 w da db ta tb n X) (hb : Below X.heap.size X Y) : St7 w da db ta tb n Y :=
  ⟨h.s.nx hb, bx_later h.b1 hb, bx_later h.b2 hb, bx_later h.b3 hb, bx_later h.b4 hb, bx_later h.b5 hb, tr_later h.u1 hb, tr_later h.u2 hb, tr_later h.u3 hb, tr_later h.u4 hb, tr_later h.u5 hb⟩
theorem St7.bel {w X : World} {da db : ND} {ta tb : T} {n : Nat} (h : St7 w da db ta tb n X) : Below w.heap.size w X := h.s.bel
theorem St7.drew {w X : World} {da db : ND} {ta tb : T} {n : Nat} (h : St7 w da db ta tb n X) : St7 w da db ta tb n X.drew := h.nx (Below.refl _ _).drew
set_option maxRecDepth 100000 in
set_option maxHeartbeats 1000000 in
theorem parts_any (ta tb : T) (hIa : InT ta) (hIb : InT tb) (da db : ND) (w : World) (ht : Tabs w) (hTa : TR w (fun _ => True) ta da.v) (hTb : TR w (fun _ => True) tb db.v) (ao : Option Addr) (cap : Nat) (xs : List Int) (hx : RdC32 w ao xs) (hcap : xs.length ≤ cap) (hxl : xs.length ≤ 9223372036854775807) :
    Calls Tryz.prog 8 #[da.v, db.v, .slice ao xs.length cap] w fun e w' => e = .returned (.bool true) ∧ Below w.heap.size w w' := by
  have a0 := al1 w (bxN da)
  have n0 := heap_alloc_new w (bxN da)
  have a1 := al1 (w.alloc (bxN da)) (bxN db)
  have n1 := heap_alloc_new (w.alloc (bxN da)) (bxN db)
  rw [World.size_alloc] at n1
  have m0 := (a1.block w.heap.size (by simp)).trans n0
  have S0 : St2 w da db ((w.alloc (bxN da)).alloc (bxN db)) := ⟨nx a0 a1, m0, n1⟩
  have hk := known8_any _ (ht.later S0.bel)
  clear a0 n0 a1 n1 m0
  unfold bxN at hk S0
  unfold ND.v
  go_enter Tryz.func8, Tryz.ntmps8
  go_wp2_with fail
  with_reducible refine hk.mono ?_
  rintro e W1 ⟨rfl, hb1⟩
  have S1 := S0.nx hb1
  clear hk hb1 S0
  have hcl := count_any ta hIa da W1 150 (by omega) (TR.later (fun k hk => S1.bel.block k hk) _ hTa)
  obtain ⟨c0, c1, c2, c3, c4⟩ := cells_bx S1.ba
  unfold ND.v at hcl
  obtain ⟨ra, hra⟩ : ∃ r : Nat, min (sz ta) (150 + 1) = r := ⟨_, rfl⟩
  rw [hra, show ((150 : Nat) : Int) = 150 from rfl] at hcl
  have HRa := hide hra
  have hrba : ra ≤ 151 := by omega
  clear hra
  go_wp2_with fail
  with_reducible refine hcl.mono ?_
  rintro e W2 ⟨rfl, hb⟩
  have S2 := S1.nx hb
  clear hcl c0 c1 c2 c3 c4 S1 hb
  by_cases hqa : ra ≤ 150
  case neg =>
    have hq' : (150 : Int) < (ra : Int) := by omega
    go_wp2
    go_ret
    exact ⟨rfl, S2.bel⟩
  have hsa : sz ta ≤ 150 := by have := HRa.out; omega
  have hqa' : ¬ (150 : Int) < (ra : Int) := by omega
  have hpsa : (E.pre ta ta).length ≤ 1000000 := by unfold sz at hsa; omega
  have hcl := count_any tb hIb db W2 150 (by omega) (TR.later (fun k hk => S2.bel.block k hk) _ hTb)
  obtain ⟨c0, c1, c2, c3, c4⟩ := cells_bx S2.bb
  unfold ND.v at hcl
  obtain ⟨rb, hrb⟩ : ∃ r : Nat, min (sz tb) (150 + 1) = r := ⟨_, rfl⟩
  rw [hrb, show ((150 : Nat) : Int) = 150 from rfl] at hcl
  have HRb := hide hrb
  have hrbb : rb ≤ 151 := by omega
  clear hrb
  go_wp2_with fail
  with_reducible refine hcl.mono ?_
  rintro e W3 ⟨rfl, hb⟩
  have S3 := S2.nx hb
  clear hcl c0 c1 c2 c3 c4 S2 hb
  by_cases hqb : rb ≤ 150
  case neg =>
    have hq' : (150 : Int) < (rb : Int) := by omega
    go_wp2
    go_ret
    exact ⟨rfl, S3.bel⟩
  have hsb : sz tb ≤ 150 := by have := HRb.out; omega
  have hqb' : ¬ (150 : Int) < (rb : Int) := by omega
  have hpsb : (E.pre tb tb).length ≤ 1000000 := by unfold sz at hsb; omega
  by_cases hn : xs.length ≤ 12
  case neg =>
    have hn' : (12 : Int) < (xs.length : Int) := by omega
    go_wp2
    go_ret
    exact ⟨rfl, S3.bel⟩
  have hn' : ¬ (12 : Int) < (xs.length : Int) := by omega
  have hcl := is_any7 ta da W3 (ht.later S3.bel) (TR.later (fun k hk => S3.bel.block k hk) _ hTa) hpsa hIa
  obtain ⟨c0, c1, c2, c3, c4⟩ := cells_bx S3.ba
  unfold ND.v at hcl
  go_wp2_with fail
  with_reducible refine hcl.mono ?_
  rintro e W4 ⟨⟨ba, rfl, hbt⟩, hb⟩
  have S4 := S3.nx hb
  clear hcl c0 c1 c2 c3 c4 S3 hb
  have HBa := hide hbt
  clear hbt
  cases ba with
  | false =>
    go_wp2
    go_ret
    exact ⟨rfl, S4.bel⟩
  | true =>
  have hPa := HBa.out.1 rfl
  clear HBa
  have hcl := is_any7 tb db W4 (ht.later S4.bel) (TR.later (fun k hk => S4.bel.block k hk) _ hTb) hpsb hIb
  obtain ⟨c0, c1, c2, c3, c4⟩ := cells_bx S4.bb
  unfold ND.v at hcl
  go_wp2_with fail
  with_reducible refine hcl.mono ?_
  rintro e W5 ⟨⟨bb, rfl, hbt⟩, hb⟩
  have S5 := S4.nx hb
  clear hcl c0 c1 c2 c3 c4 S4 hb
  have HBb := hide hbt
  clear hbt
  cases bb with
  | false =>
    go_wp2
    go_ret
    exact ⟨rfl, S5.bel⟩
  | true =>
  have hPb := HBb.out.1 rfl
  clear HBb
  have hcl := names8_any ta da W5 (TR.later (fun k hk => S5.bel.block k hk) _ hTa) hpsa hPa
  obtain ⟨c0, c1, c2, c3, c4⟩ := cells_bx S5.ba
  unfold ND.v at hcl
  go_wp2_with fail
  with_reducible refine hcl.mono ?_
  rintro e W6 ⟨oa, pa, na, rfl, HNa, hb⟩
  have S6 := S5.nx hb
  clear hcl c0 c1 c2 c3 c4 S5 hb
  by_cases hza : na = 0
  case neg =>
    have hz' : (0 : Int) < (na : Int) := by omega
    go_wp2
    go_ret
    exact ⟨rfl, S6.bel⟩
  subst hza
  have PLa := hide (HNa.out.1 rfl)
  clear HNa
  have hcl := names8_any tb db W6 (TR.later (fun k hk => S6.bel.block k hk) _ hTb) hpsb hPb
  obtain ⟨c0, c1, c2, c3, c4⟩ := cells_bx S6.bb
  unfold ND.v at hcl
  go_wp2_with fail
  with_reducible refine hcl.mono ?_
  rintro e W7 ⟨ob, pb, nb, rfl, HNb, hb⟩
  have S7 := S6.nx hb
  clear hcl c0 c1 c2 c3 c4 S6 hb
  by_cases hzb : nb = 0
  case neg =>
    have hz' : (0 : Int) < (nb : Int) := by omega
    go_wp2
    go_ret
    exact ⟨rfl, S7.bel⟩
  subst hzb
  have PLb := hide (HNb.out.1 rfl)
  clear HNb
  obtain ⟨c0, c1, c2, c3, c4⟩ := cells_bx S7.ba
  obtain ⟨g0, g1, g2, g3, g4⟩ := cells_bx S7.bb
  have hw6 : w.heap.size < W7.heap.size := (Array.getElem?_eq_some_iff.1 S7.ba).1
  have hw7 : w.heap.size + 1 < W7.heap.size := (Array.getElem?_eq_some_iff.1 S7.bb).1
  have e1 : w.heap.size < W7.heap.size + 1 := by omega
  have e2 : w.heap.size < W7.heap.size + 1 + 1 := by omega
  have e3 : w.heap.size < W7.heap.size + 1 + 1 + 1 := by omega
  have e4 : w.heap.size < W7.heap.size + 1 + 1 + 1 + 1 := by omega
  have e5 : w.heap.size < W7.heap.size + 1 + 1 + 1 + 1 + 1 := by omega
  have e6 : w.heap.size < W7.heap.size + 1 + 1 + 1 + 1 + 1 + 1 := by omega
  have e7 : w.heap.size < W7.heap.size + 1 + 1 + 1 + 1 + 1 + 1 + 1 := by omega
  have e8 : w.heap.size < W7.heap.size + 1 + 1 + 1 + 1 + 1 + 1 + 1 + 1 := by omega
  have e9 : w.heap.size < W7.heap.size + 1 + 1 + 1 + 1 + 1 + 1 + 1 + 1 + 1 := by omega
  have j1 : w.heap.size + 1 < W7.heap.size + 1 := by omega
  have j2 : w.heap.size + 1 < W7.heap.size + 1 + 1 := by omega
  have j3 : w.heap.size + 1 < W7.heap.size + 1 + 1 + 1 := by omega
  have j4 : w.heap.size + 1 < W7.heap.size + 1 + 1 + 1 + 1 := by omega
  go_wp2
  have Ta7 := TR.later (fun k hk => S7.bel.block k hk) _ hTa
  have Tb7 := TR.later (fun k hk => S7.bel.block k hk) _ hTb
  obtain ⟨U1, N1, L1, Z1⟩ := mk2R 4 da db ta tb W7 (W7.heap.size) rfl Ta7 Tb7
  obtain ⟨Y1, hY1⟩ : ∃ Y1, (W7.alloc (.cells #[.int .i64 da.k, .int .i64 da.a, .slice da.sp da.sl da.sc, .string da.n, .slice da.kp da.kl da.kc, .int .i64 db.k, .int .i64 db.a, .slice db.sp db.sl db.sc, .string db.n, .slice db.kp db.kl db.kc] 26)).alloc (.cells #[.int .i64 4, .int .i64 0, .slice none 0 0, .string ⟨#[]⟩, .slice (some ⟨W7.heap.size, 0, none⟩) 2 2] 26) = Y1 := ⟨_, rfl⟩
  rw [hY1] at U1 N1 L1 Z1 ⊢
  replace Ta7 := tr_later Ta7 L1
  replace Tb7 := tr_later Tb7 L1
  obtain ⟨U2, N2, L2, Z2⟩ := mk2R 5 da db ta tb Y1 (W7.heap.size + 1 + 1) Z1 Ta7 Tb7
  obtain ⟨Y2, hY2⟩ : ∃ Y2, (Y1.alloc (.cells #[.int .i64 da.k, .int .i64 da.a, .slice da.sp da.sl da.sc, .string da.n, .slice da.kp da.kl da.kc, .int .i64 db.k, .int .i64 db.a, .slice db.sp db.sl db.sc, .string db.n, .slice db.kp db.kl db.kc] 26)).alloc (.cells #[.int .i64 5, .int .i64 0, .slice none 0 0, .string ⟨#[]⟩, .slice (some ⟨W7.heap.size + 1 + 1, 0, none⟩) 2 2] 26) = Y2 := ⟨_, rfl⟩
  rw [hY2] at U2 N2 L2 Z2 ⊢
  replace Ta7 := tr_later Ta7 L2
  obtain ⟨U3, N3, L3, Z3⟩ := mk1R 6 da ta Y2 (W7.heap.size + 1 + 1 + 1 + 1) Z2 Ta7
  obtain ⟨Y3, hY3⟩ : ∃ Y3, (Y2.alloc (.cells #[.int .i64 da.k, .int .i64 da.a, .slice da.sp da.sl da.sc, .string da.n, .slice da.kp da.kl da.kc] 26)).alloc (.cells #[.int .i64 6, .int .i64 0, .slice none 0 0, .string ⟨#[]⟩, .slice (some ⟨W7.heap.size + 1 + 1 + 1 + 1, 0, none⟩) 1 1] 26) = Y3 := ⟨_, rfl⟩
  rw [hY3] at U3 N3 L3 Z3 ⊢
  replace Ta7 := tr_later Ta7 L3
  obtain ⟨U4, N4, L4, Z4⟩ := mk1R 7 da ta Y3 (W7.heap.size + 1 + 1 + 1 + 1 + 1 + 1) Z3 Ta7
  obtain ⟨Y4, hY4⟩ : ∃ Y4, (Y3.alloc (.cells #[.int .i64 da.k, .int .i64 da.a, .slice da.sp da.sl da.sc, .string da.n, .slice da.kp da.kl da.kc] 26)).alloc (.cells #[.int .i64 7, .int .i64 0, .slice none 0 0, .string ⟨#[]⟩, .slice (some ⟨W7.heap.size + 1 + 1 + 1 + 1 + 1 + 1, 0, none⟩) 1 1] 26) = Y4 := ⟨_, rfl⟩
  rw [hY4] at U4 N4 L4 Z4 ⊢
  replace Ta7 := tr_later Ta7 L4
  obtain ⟨U5, N5, L5, Z5⟩ := mk1R 8 da ta Y4 (W7.heap.size + 1 + 1 + 1 + 1 + 1 + 1 + 1 + 1) Z4 Ta7
  obtain ⟨Y5, hY5⟩ : ∃ Y5, (Y4.alloc (.cells #[.int .i64 da.k, .int .i64 da.a, .slice da.sp da.sl da.sc, .string da.n, .slice da.kp da.kl da.kc] 26)).alloc (.cells #[.int .i64 8, .int .i64 0, .slice none 0 0, .string ⟨#[]⟩, .slice (some ⟨W7.heap.size + 1 + 1 + 1 + 1 + 1 + 1 + 1 + 1, 0, none⟩) 1 1] 26) = Y5 := ⟨_, rfl⟩
  rw [hY5] at U5 N5 L5 Z5 ⊢
  replace Ta7 := tr_later Ta7 L5
  have LA := nx L2 (nx L3 (nx L4 L5))
  have LB := nx L3 (nx L4 L5)
  have LC := nx L4 L5
  have S8 : St7 w da db ta tb W7.heap.size Y5 := ⟨S7.nx (nx L1 LA), bx_later N1 LA, bx_later N2 LB, bx_later N3 LC, bx_later N4 L5, N5, tr_later U1 LA, tr_later U2 LB, tr_later U3 LC, tr_later U4 L5, U5⟩
  clear hY1 hY2 hY3 hY4 hY5 U1 U2 U3 U4 U5 N1 N2 N3 N4 N5 L1 L2 L3 L4 L5 Z1 Z2 Z3 Z4 Z5 LA LB LC Ta7 Tb7 c0 c1 c2 c3 c4 g0 g1 g2 g3 g4 e1 e2 e3 e4 e5 e6 e7 e8 e9 j1 j2 j3 j4 hw6 hw7 S7
  generalize W7.heap.size = n at *
  have hPa := PLa.out
  have hPb := PLb.out
  have hsa2 : (E.pre ta ta).length ≤ 150 := hsa
  have hsb2 : (E.pre tb tb).length ≤ 150 := hsb
  have P1 := hide (plain_t2 (k := 4) (.inl rfl) hPa hPb (by omega))
  have P2 := hide (plain_t2 (k := 5) (.inr rfl) hPa hPb (by omega))
  have P3 := hide (plain_t1 (k := 6) (.inl rfl) hPa (by omega))
  have P4 := hide (plain_t1 (k := 7) (.inr (.inl rfl)) hPa (by omega))
  have P5 := hide (plain_t1 (k := 8) (.inr (.inr rfl)) hPa (by omega))
  have hl1 : ∀ k, (E.pre (t2 k ta tb) (t2 k ta tb)).length ≤ 1000000 := fun k => by rw [len_t2]; omega
  have hl2 : ∀ k, (E.pre (t1 k ta) (t1 k ta)).length ≤ 1000000 := fun k => by rw [len_t1]; omega
  have hi1 : ∀ k, InT (t2 k ta tb) := fun k => inT_t2 hIa hIb
  have hi2 : ∀ k, InT (t1 k ta) := fun k => inT_t1 hIa
  have HL1 := hide hl1
  have HL2 := hide hl2
  have HI1 := hide hi1
  have HI2 := hide hi2
  clear hl1 hl2 hi1 hi2
  have PA := hide hPa
  have PB := hide hPb
  clear hPa hPb PLa PLb
  rw [show decide ((150 : Int) < (ra : Int)) = false from decide_eq_false (by omega), show decide ((150 : Int) < (rb : Int)) = false from decide_eq_false (by omega), show decide ((12 : Int) < (xs.length : Int)) = false from decide_eq_false (by omega)]
  simp only [Bool.or_self]
  go_loopw [12, 13, 14] (fun s1 s2 u wr => ∃ (p q : Bool) (i : Nat), s1 = .bool p ∧ s2 = .bool q ∧ u = .int .i64 (i : Int) ∧ i ≤ xs.length + 1 ∧ Hid (p = true ↔ ∃ j, j < i ∧ AllP ta (xs.take j) ∧ AllP tb (xs.drop j)) ∧ Hid (q = true ↔ ∃ j, j < i ∧ AllP ta (xs.take j) ∧ AllP (t1 6 ta) (xs.drop j)) ∧ Below Y5.heap.size Y5 wr) (fun _ _ u _ => xs.length + 1 - (intOf u).toNat)
  case atStart => exact ⟨false, false, 0, rfl, rfl, rfl, Nat.zero_le _, hide ⟨fun h => (by cases h), fun ⟨j, h, _⟩ => (by omega)⟩, hide ⟨fun h => (by cases h), fun ⟨j, h, _⟩ => (by omega)⟩, Below.refl _ _⟩
  case round =>
    obtain ⟨p, q, i, rfl, rfl, rfl, hi, HP, HQ, hB⟩ := hrel
    have SW := S8.nx hB
    by_cases hle : i ≤ xs.length
    · obtain ⟨oa1, hsl, hrl⟩ := cut_to8 (hx.later SW.bel) i hle hcap
      obtain ⟨oa2, hsr, hrr⟩ := cut_from8 (hx.later SW.bel) i hle hcap
      have hyl : (xs.take i).length ≤ 12 := by simp; omega
      have hzl : (xs.drop i).length ≤ 12 := by simp; omega
      have HX : Hid (∀ (P : List Int → Prop) (b : Bool) (p : Bool), (p = true ↔ ∃ j, j < i ∧ AllP ta (xs.take j) ∧ P (xs.drop j)) → (AllP ta (xs.take i) → (b = true ↔ P (xs.drop i))) → (¬ AllP ta (xs.take i) → b = false) → ((p || b) = true ↔ ∃ j, j < i + 1 ∧ AllP ta (xs.take j) ∧ P (xs.drop j))) := hide (step_or ta xs i)
      obtain ⟨ys, hys⟩ : ∃ ys, xs.take i = ys := ⟨_, rfl⟩
      obtain ⟨zs, hzs⟩ : ∃ zs, xs.drop i = zs := ⟨_, rfl⟩
      rw [hys] at hsl hrl hyl HX
      rw [hzs] at hsr hrr hzl HX
      clear hys hzs
      by_cases hA : AllP ta ys
      · have HA : Hid (∀ b : Bool, (b = true ↔ AllP ta ys) → b = true) := hide (fun b hb => hb.2 hA)
        cases p with
        | true =>
          cases q with
          | true =>
            have HPE := hide (HP.out.1 rfl)
            have HQE := hide (HQ.out.1 rfl)
            go_wp2_with fail
            obtain ⟨V, hV⟩ : ∃ V, wr = V := ⟨_, rfl⟩
            rw [hV] at SW hB hrl hrr ⊢
            clear hV
            have SV := SW
            refine U.Reg.start (B := V.heap.size) (by kernel_rfl) ?_
            refine tk 0 76 (.bool true) rfl (fun _ _ => by kernel_rfl) ?_
            refine tk 1 77 (.bool true) rfl (fun _ _ => by kernel_rfl) ?_
            refine sk 2 78 rfl ?_
            refine sk 3 79 rfl ?_
            refine sk 4 80 rfl ?_
            refine sk 5 81 rfl ?_
            refine sk 6 82 rfl ?_
            refine sk 7 83 rfl ?_
            refine sk 8 84 rfl ?_
            refine sk 9 85 rfl ?_
            refine sk 10 86 rfl ?_
            refine sk 11 87 rfl ?_
            refine sk 12 88 rfl ?_
            refine sk 13 89 rfl ?_
            refine tk 14 90 (.bool true) rfl (fun _ _ => by kernel_rfl) ?_
            refine on 15 12 (.bool true) rfl ?_
            refine U.Reg.done (by kernel_rfl) ?_
            simp only [U.Reg.ov, Act.put, List.setIfInBounds_toArray, List.set_cons_succ, List.set_cons_zero]
            have BV : Below V.heap.size V (V.drew) := (Below.refl _ V).drew
            have SK := SW.nx BV
            obtain ⟨Kw, hK⟩ : ∃ Kw, V.drew = Kw := ⟨_, rfl⟩
            rw [hK] at BV SK ⊢
            go_wp2_with fail
            obtain ⟨V2, hV2⟩ : ∃ V2, Kw = V2 := ⟨_, rfl⟩
            rw [hV2] at SK BV ⊢
            have SV2 := SK
            refine U.Reg.start (B := V2.heap.size) (by kernel_rfl) ?_
            refine tk 0 91 (.bool true) rfl (fun _ _ => by kernel_rfl) ?_
            refine tk 1 92 (.bool true) rfl (fun _ _ => by kernel_rfl) ?_
            refine sk 2 93 rfl ?_
            refine sk 3 94 rfl ?_
            refine sk 4 95 rfl ?_
            refine sk 5 96 rfl ?_
            refine sk 6 97 rfl ?_
            refine sk 7 98 rfl ?_
            refine sk 8 99 rfl ?_
            refine sk 9 100 rfl ?_
            refine sk 10 101 rfl ?_
            refine sk 11 102 rfl ?_
            refine sk 12 103 rfl ?_
            refine sk 13 104 rfl ?_
            refine tk 14 105 (.bool true) rfl (fun _ _ => by kernel_rfl) ?_
            refine on 15 13 (.bool true) rfl ?_
            refine U.Reg.done (by kernel_rfl) ?_
            simp only [U.Reg.ov, Act.put, List.setIfInBounds_toArray, List.set_cons_succ, List.set_cons_zero]
            have BZ : Below Y5.heap.size Y5 (V2.drew) := nx hB (nx BV ((Below.refl _ V2).drew))
            have HP2 : Hid (true = true ↔ ∃ j, j < i + 1 ∧ AllP ta (xs.take j) ∧ AllP tb (xs.drop j)) := hide ⟨fun _ => HPE.out.imp fun j h => ⟨by omega, h.2⟩, fun _ => rfl⟩
            have HQ2 : Hid (true = true ↔ ∃ j, j < i + 1 ∧ AllP ta (xs.take j) ∧ AllP (t1 6 ta) (xs.drop j)) := hide ⟨fun _ => HQE.out.imp fun j h => ⟨by omega, h.2⟩, fun _ => rfl⟩
            go_wp2
            exact ⟨⟨true, true, i + 1, rfl, rfl, by go_num, by omega, HP2, HQ2, BZ⟩, by simp [intOf]; omega⟩
          | false =>
            have HPE := hide (HP.out.1 rfl)
            go_wp2_with fail
            obtain ⟨V, hV⟩ : ∃ V, wr = V := ⟨_, rfl⟩
            rw [hV] at SW hB hrl hrr ⊢
            clear hV
            have SV := SW
            refine U.Reg.start (B := V.heap.size) (by kernel_rfl) ?_
            refine tk 0 76 (.bool true) rfl (fun _ _ => by kernel_rfl) ?_
            refine tk 1 77 (.bool true) rfl (fun _ _ => by kernel_rfl) ?_
            refine sk 2 78 rfl ?_
            refine sk 3 79 rfl ?_
            refine sk 4 80 rfl ?_
            refine sk 5 81 rfl ?_
            refine sk 6 82 rfl ?_
            refine sk 7 83 rfl ?_
            refine sk 8 84 rfl ?_
            refine sk 9 85 rfl ?_
            refine sk 10 86 rfl ?_
            refine sk 11 87 rfl ?_
            refine sk 12 88 rfl ?_
            refine sk 13 89 rfl ?_
            refine tk 14 90 (.bool true) rfl (fun _ _ => by kernel_rfl) ?_
            refine on 15 12 (.bool true) rfl ?_
            refine U.Reg.done (by kernel_rfl) ?_
            simp only [U.Reg.ov, Act.put, List.setIfInBounds_toArray, List.set_cons_succ, List.set_cons_zero]
            have BV : Below V.heap.size V (V.drew) := (Below.refl _ V).drew
            have SK := SW.nx BV
            obtain ⟨Kw, hK⟩ : ∃ Kw, V.drew = Kw := ⟨_, rfl⟩
            rw [hK] at BV SK ⊢
            go_wp2_with fail
            obtain ⟨V2, hV2⟩ : ∃ V2, Kw = V2 := ⟨_, rfl⟩
            rw [hV2] at SK BV ⊢
            have SV2 := SK
            refine U.Reg.start (B := V2.heap.size) (by kernel_rfl) ?_
            refine tk 0 91 (.bool false) rfl (fun _ _ => by kernel_rfl) ?_
            refine tk 1 92 (.bool false) rfl (fun _ _ => by kernel_rfl) ?_
            refine tk 2 93 (.agg #[.int .i64 da.k, .int .i64 da.a, .slice da.sp da.sl da.sc, .string da.n, .slice da.kp da.kl da.kc]) rfl (fun _ hb => Reg.ldN rfl rfl ((hb.block _ (Array.getElem?_eq_some_iff.1 (SV2.s.ba)).1).trans SV2.s.ba)) ?_
            refine tk 3 94 (.slice ao xs.length cap) rfl (fun _ _ => by kernel_rfl) ?_
            refine tk 4 95 (.int .i64 (i : Int)) rfl (fun _ _ => by kernel_rfl) ?_
            refine tk 5 96 (.slice oa1 ys.length (cap - 0)) rfl (fun wx _ => Rcl.slt rfl (by kernel_rfl) (by kernel_rfl) (hsl wx)) ?_
            have hcl := allM_any ta da V2.drew (ht.later SV2.drew.bel) (TR.later (fun k hk => SV2.drew.bel.block k hk) _ hTa) hpsa hIa oa1 (cap - 0) ys (RdC32.later hrl BV.drew) (by omega)
            unfold ND.v at hcl
            refine cl 6 97 37 #[.agg #[.int .i64 da.k, .int .i64 da.a, .slice da.sp da.sl da.sc, .string da.n, .slice da.kp da.kl da.kc], .slice oa1 ys.length (cap - 0)] rfl rfl (hcl) ?_
            rintro e X2 ⟨⟨b, rfl, hbb⟩, hb⟩
            obtain rfl : b = true := HA.out b hbb
            refine ⟨_, rfl, hb, ?_⟩
            have BX2 : Below V2.heap.size V2 X2 := (Below.refl _ V2).drew.trans hb
            clear hcl hbb
            refine on 7 98 (.bool true) rfl ?_
            have SX2 := SV2.nx BX2
            refine tk 8 99 (.agg #[.int .i64 6, .int .i64 0, .slice none 0 0, .string ⟨#[]⟩, .slice (some ⟨n + 1 + 1 + 1 + 1, 0, none⟩) 1 1]) rfl (fun _ hb => Reg.ldN rfl rfl ((hb.block _ (Array.getElem?_eq_some_iff.1 (SV2.b3)).1).trans SX2.b3)) ?_
            refine tk 9 100 (.slice ao xs.length cap) rfl (fun _ _ => by kernel_rfl) ?_
            refine tk 10 101 (.int .i64 (i : Int)) rfl (fun _ _ => by kernel_rfl) ?_
            refine tk 11 102 (.slice oa2 zs.length (cap - i)) rfl (fun wx _ => Rcl.slf rfl (by kernel_rfl) (by kernel_rfl) (hsr wx)) ?_
            have hcl := allM_any (t1 6 ta) (ndK 6 (n + 1 + 1 + 1 + 1) 1) X2 (ht.later SX2.bel) SX2.u3 (HL2.out 6) (HI2.out 6) oa2 (cap - i) zs (hrr.later (BV.trans (BX2.mono BV.size))) (by omega)
            unfold ND.v ndK at hcl
            refine cl 12 103 37 #[.agg #[.int .i64 6, .int .i64 0, .slice none 0 0, .string ⟨#[]⟩, .slice (some ⟨n + 1 + 1 + 1 + 1, 0, none⟩) 1 1], .slice oa2 zs.length (cap - i)] rfl rfl (hcl) ?_
            rintro e X2b ⟨⟨b2, rfl, hb2⟩, hc⟩
            have BX2b : Below V2.heap.size V2 X2b := BX2.trans (hc.mono BX2.size)
            refine ⟨_, rfl, hc.mono BX2.size, ?_⟩
            refine on 13 104 (.bool b2) rfl ?_
            refine on 14 105 (.bool b2) rfl ?_
            refine on 15 13 (.bool b2) rfl ?_
            refine U.Reg.done (by kernel_rfl) ?_
            simp only [U.Reg.ov, Act.put, List.setIfInBounds_toArray, List.set_cons_succ, List.set_cons_zero]
            clear hcl hc hb
            have BZ : Below Y5.heap.size Y5 (X2b) := nx hB (nx BV (BX2b))
            have HP2 : Hid (true = true ↔ ∃ j, j < i + 1 ∧ AllP ta (xs.take j) ∧ AllP tb (xs.drop j)) := hide ⟨fun _ => HPE.out.imp fun j h => ⟨by omega, h.2⟩, fun _ => rfl⟩
            have HQ2 := hide (HX.out (AllP (t1 6 ta)) b2 false HQ.out (fun _ => hb2) (fun h => absurd hA h))
            rw [Bool.false_or] at HQ2
            go_wp2
            exact ⟨⟨true, b2, i + 1, rfl, rfl, by go_num, by omega, HP2, HQ2, BZ⟩, by simp [intOf]; omega⟩
        | false =>
          cases q with
          | true =>
            have HQE := hide (HQ.out.1 rfl)
            go_wp2_with fail
            obtain ⟨V, hV⟩ : ∃ V, wr = V := ⟨_, rfl⟩
            rw [hV] at SW hB hrl hrr ⊢
            clear hV
            have SV := SW
            refine U.Reg.start (B := V.heap.size) (by kernel_rfl) ?_
            refine tk 0 76 (.bool false) rfl (fun _ _ => by kernel_rfl) ?_
            refine tk 1 77 (.bool false) rfl (fun _ _ => by kernel_rfl) ?_
            refine tk 2 78 (.agg #[.int .i64 da.k, .int .i64 da.a, .slice da.sp da.sl da.sc, .string da.n, .slice da.kp da.kl da.kc]) rfl (fun _ hb => Reg.ldN rfl rfl ((hb.block _ (Array.getElem?_eq_some_iff.1 (SV.s.ba)).1).trans SV.s.ba)) ?_
            refine tk 3 79 (.slice ao xs.length cap) rfl (fun _ _ => by kernel_rfl) ?_
            refine tk 4 80 (.int .i64 (i : Int)) rfl (fun _ _ => by kernel_rfl) ?_
            refine tk 5 81 (.slice oa1 ys.length (cap - 0)) rfl (fun wx _ => Rcl.slt rfl (by kernel_rfl) (by kernel_rfl) (hsl wx)) ?_
            have hcl := allM_any ta da V.drew (ht.later SV.drew.bel) (TR.later (fun k hk => SV.drew.bel.block k hk) _ hTa) hpsa hIa oa1 (cap - 0) ys (RdC32.later hrl (Below.refl V.heap.size V).drew) (by omega)
            unfold ND.v at hcl
            refine cl 6 82 37 #[.agg #[.int .i64 da.k, .int .i64 da.a, .slice da.sp da.sl da.sc, .string da.n, .slice da.kp da.kl da.kc], .slice oa1 ys.length (cap - 0)] rfl rfl (hcl) ?_
            rintro e X1 ⟨⟨b, rfl, hbb⟩, hb⟩
            obtain rfl : b = true := HA.out b hbb
            refine ⟨_, rfl, hb, ?_⟩
            have BX1 : Below V.heap.size V X1 := (Below.refl _ V).drew.trans hb
            clear hcl hbb
            refine on 7 83 (.bool true) rfl ?_
            have SX1 := SV.nx BX1
            refine tk 8 84 (.agg #[.int .i64 db.k, .int .i64 db.a, .slice db.sp db.sl db.sc, .string db.n, .slice db.kp db.kl db.kc]) rfl (fun _ hb => Reg.ldN rfl rfl ((hb.block _ (Array.getElem?_eq_some_iff.1 (SV.s.bb)).1).trans SX1.s.bb)) ?_
            refine tk 9 85 (.slice ao xs.length cap) rfl (fun _ _ => by kernel_rfl) ?_
            refine tk 10 86 (.int .i64 (i : Int)) rfl (fun _ _ => by kernel_rfl) ?_
            refine tk 11 87 (.slice oa2 zs.length (cap - i)) rfl (fun wx _ => Rcl.slf rfl (by kernel_rfl) (by kernel_rfl) (hsr wx)) ?_
            have hcl := allM_any tb db X1 (ht.later SX1.bel) (TR.later (fun k hk => SX1.bel.block k hk) _ hTb) hpsb hIb oa2 (cap - i) zs (hrr.later ((Below.refl V.heap.size V).trans (BX1.mono (Below.refl V.heap.size V).size))) (by omega)
            unfold ND.v at hcl
            refine cl 12 88 37 #[.agg #[.int .i64 db.k, .int .i64 db.a, .slice db.sp db.sl db.sc, .string db.n, .slice db.kp db.kl db.kc], .slice oa2 zs.length (cap - i)] rfl rfl (hcl) ?_
            rintro e X1b ⟨⟨b1, rfl, hb1⟩, hc⟩
            have BX1b : Below V.heap.size V X1b := BX1.trans (hc.mono BX1.size)
            refine ⟨_, rfl, hc.mono BX1.size, ?_⟩
            refine on 13 89 (.bool b1) rfl ?_
            refine on 14 90 (.bool b1) rfl ?_
            refine on 15 12 (.bool b1) rfl ?_
            refine U.Reg.done (by kernel_rfl) ?_
            simp only [U.Reg.ov, Act.put, List.setIfInBounds_toArray, List.set_cons_succ, List.set_cons_zero]
            clear hcl hc hb
            have BV : Below V.heap.size V (X1b) := BX1b
            have SK := SW.nx BV
            obtain ⟨Kw, hK⟩ : ∃ Kw, X1b = Kw := ⟨_, rfl⟩
            rw [hK] at BV SK ⊢
            go_wp2_with fail
            obtain ⟨V2, hV2⟩ : ∃ V2, Kw = V2 := ⟨_, rfl⟩
            rw [hV2] at SK BV ⊢
            have SV2 := SK
            refine U.Reg.start (B := V2.heap.size) (by kernel_rfl) ?_
            refine tk 0 91 (.bool true) rfl (fun _ _ => by kernel_rfl) ?_
            refine tk 1 92 (.bool true) rfl (fun _ _ => by kernel_rfl) ?_
            refine sk 2 93 rfl ?_
            refine sk 3 94 rfl ?_
            refine sk 4 95 rfl ?_
            refine sk 5 96 rfl ?_
            refine sk 6 97 rfl ?_
            refine sk 7 98 rfl ?_
            refine sk 8 99 rfl ?_
            refine sk 9 100 rfl ?_
            refine sk 10 101 rfl ?_
            refine sk 11 102 rfl ?_
            refine sk 12 103 rfl ?_
            refine sk 13 104 rfl ?_
            refine tk 14 105 (.bool true) rfl (fun _ _ => by kernel_rfl) ?_
            refine on 15 13 (.bool true) rfl ?_
            refine U.Reg.done (by kernel_rfl) ?_
            simp only [U.Reg.ov, Act.put, List.setIfInBounds_toArray, List.set_cons_succ, List.set_cons_zero]
            have BZ : Below Y5.heap.size Y5 (V2.drew) := nx hB (nx BV ((Below.refl _ V2).drew))
            have HP2 := hide (HX.out (AllP tb) b1 false HP.out (fun _ => hb1) (fun h => absurd hA h))
            rw [Bool.false_or] at HP2
            have HQ2 : Hid (true = true ↔ ∃ j, j < i + 1 ∧ AllP ta (xs.take j) ∧ AllP (t1 6 ta) (xs.drop j)) := hide ⟨fun _ => HQE.out.imp fun j h => ⟨by omega, h.2⟩, fun _ => rfl⟩
            go_wp2
            exact ⟨⟨b1, true, i + 1, rfl, rfl, by go_num, by omega, HP2, HQ2, BZ⟩, by simp [intOf]; omega⟩
          | false =>
            go_wp2_with fail
            obtain ⟨V, hV⟩ : ∃ V, wr = V := ⟨_, rfl⟩
            rw [hV] at SW hB hrl hrr ⊢
            clear hV
            have SV := SW
            refine U.Reg.start (B := V.heap.size) (by kernel_rfl) ?_
            refine tk 0 76 (.bool false) rfl (fun _ _ => by kernel_rfl) ?_
            refine tk 1 77 (.bool false) rfl (fun _ _ => by kernel_rfl) ?_
            refine tk 2 78 (.agg #[.int .i64 da.k, .int .i64 da.a, .slice da.sp da.sl da.sc, .string da.n, .slice da.kp da.kl da.kc]) rfl (fun _ hb => Reg.ldN rfl rfl ((hb.block _ (Array.getElem?_eq_some_iff.1 (SV.s.ba)).1).trans SV.s.ba)) ?_
            refine tk 3 79 (.slice ao xs.length cap) rfl (fun _ _ => by kernel_rfl) ?_
            refine tk 4 80 (.int .i64 (i : Int)) rfl (fun _ _ => by kernel_rfl) ?_
            refine tk 5 81 (.slice oa1 ys.length (cap - 0)) rfl (fun wx _ => Rcl.slt rfl (by kernel_rfl) (by kernel_rfl) (hsl wx)) ?_
            have hcl := allM_any ta da V.drew (ht.later SV.drew.bel) (TR.later (fun k hk => SV.drew.bel.block k hk) _ hTa) hpsa hIa oa1 (cap - 0) ys (RdC32.later hrl (Below.refl V.heap.size V).drew) (by omega)
            unfold ND.v at hcl
            refine cl 6 82 37 #[.agg #[.int .i64 da.k, .int .i64 da.a, .slice da.sp da.sl da.sc, .string da.n, .slice da.kp da.kl da.kc], .slice oa1 ys.length (cap - 0)] rfl rfl (hcl) ?_
            rintro e X1 ⟨⟨b, rfl, hbb⟩, hb⟩
            obtain rfl : b = true := HA.out b hbb
            refine ⟨_, rfl, hb, ?_⟩
            have BX1 : Below V.heap.size V X1 := (Below.refl _ V).drew.trans hb
            clear hcl hbb
            refine on 7 83 (.bool true) rfl ?_
            have SX1 := SV.nx BX1
            refine tk 8 84 (.agg #[.int .i64 db.k, .int .i64 db.a, .slice db.sp db.sl db.sc, .string db.n, .slice db.kp db.kl db.kc]) rfl (fun _ hb => Reg.ldN rfl rfl ((hb.block _ (Array.getElem?_eq_some_iff.1 (SV.s.bb)).1).trans SX1.s.bb)) ?_
            refine tk 9 85 (.slice ao xs.length cap) rfl (fun _ _ => by kernel_rfl) ?_
            refine tk 10 86 (.int .i64 (i : Int)) rfl (fun _ _ => by kernel_rfl) ?_
            refine tk 11 87 (.slice oa2 zs.length (cap - i)) rfl (fun wx _ => Rcl.slf rfl (by kernel_rfl) (by kernel_rfl) (hsr wx)) ?_
            have hcl := allM_any tb db X1 (ht.later SX1.bel) (TR.later (fun k hk => SX1.bel.block k hk) _ hTb) hpsb hIb oa2 (cap - i) zs (hrr.later ((Below.refl V.heap.size V).trans (BX1.mono (Below.refl V.heap.size V).size))) (by omega)
            unfold ND.v at hcl
            refine cl 12 88 37 #[.agg #[.int .i64 db.k, .int .i64 db.a, .slice db.sp db.sl db.sc, .string db.n, .slice db.kp db.kl db.kc], .slice oa2 zs.length (cap - i)] rfl rfl (hcl) ?_
            rintro e X1b ⟨⟨b1, rfl, hb1⟩, hc⟩
            have BX1b : Below V.heap.size V X1b := BX1.trans (hc.mono BX1.size)
            refine ⟨_, rfl, hc.mono BX1.size, ?_⟩
            refine on 13 89 (.bool b1) rfl ?_
            refine on 14 90 (.bool b1) rfl ?_
            refine on 15 12 (.bool b1) rfl ?_
            refine U.Reg.done (by kernel_rfl) ?_
            simp only [U.Reg.ov, Act.put, List.setIfInBounds_toArray, List.set_cons_succ, List.set_cons_zero]
            clear hcl hc hb
            have BV : Below V.heap.size V (X1b) := BX1b
            have SK := SW.nx BV
            obtain ⟨Kw, hK⟩ : ∃ Kw, X1b = Kw := ⟨_, rfl⟩
            rw [hK] at BV SK ⊢
            go_wp2_with fail
            obtain ⟨V2, hV2⟩ : ∃ V2, Kw = V2 := ⟨_, rfl⟩
            rw [hV2] at SK BV ⊢
            have SV2 := SK
            refine U.Reg.start (B := V2.heap.size) (by kernel_rfl) ?_
            refine tk 0 91 (.bool false) rfl (fun _ _ => by kernel_rfl) ?_
            refine tk 1 92 (.bool false) rfl (fun _ _ => by kernel_rfl) ?_
            refine tk 2 93 (.agg #[.int .i64 da.k, .int .i64 da.a, .slice da.sp da.sl da.sc, .string da.n, .slice da.kp da.kl da.kc]) rfl (fun _ hb => Reg.ldN rfl rfl ((hb.block _ (Array.getElem?_eq_some_iff.1 (SV2.s.ba)).1).trans SV2.s.ba)) ?_
            refine tk 3 94 (.slice ao xs.length cap) rfl (fun _ _ => by kernel_rfl) ?_
            refine tk 4 95 (.int .i64 (i : Int)) rfl (fun _ _ => by kernel_rfl) ?_
            refine tk 5 96 (.slice oa1 ys.length (cap - 0)) rfl (fun wx _ => Rcl.slt rfl (by kernel_rfl) (by kernel_rfl) (hsl wx)) ?_
            have hcl := allM_any ta da V2.drew (ht.later SV2.drew.bel) (TR.later (fun k hk => SV2.drew.bel.block k hk) _ hTa) hpsa hIa oa1 (cap - 0) ys (RdC32.later hrl BV.drew) (by omega)
            unfold ND.v at hcl
            refine cl 6 97 37 #[.agg #[.int .i64 da.k, .int .i64 da.a, .slice da.sp da.sl da.sc, .string da.n, .slice da.kp da.kl da.kc], .slice oa1 ys.length (cap - 0)] rfl rfl (hcl) ?_
            rintro e X2 ⟨⟨b, rfl, hbb⟩, hb⟩
            obtain rfl : b = true := HA.out b hbb
            refine ⟨_, rfl, hb, ?_⟩
            have BX2 : Below V2.heap.size V2 X2 := (Below.refl _ V2).drew.trans hb
            clear hcl hbb
            refine on 7 98 (.bool true) rfl ?_
            have SX2 := SV2.nx BX2
            refine tk 8 99 (.agg #[.int .i64 6, .int .i64 0, .slice none 0 0, .string ⟨#[]⟩, .slice (some ⟨n + 1 + 1 + 1 + 1, 0, none⟩) 1 1]) rfl (fun _ hb => Reg.ldN rfl rfl ((hb.block _ (Array.getElem?_eq_some_iff.1 (SV2.b3)).1).trans SX2.b3)) ?_
            refine tk 9 100 (.slice ao xs.length cap) rfl (fun _ _ => by kernel_rfl) ?_
            refine tk 10 101 (.int .i64 (i : Int)) rfl (fun _ _ => by kernel_rfl) ?_
            refine tk 11 102 (.slice oa2 zs.length (cap - i)) rfl (fun wx _ => Rcl.slf rfl (by kernel_rfl) (by kernel_rfl) (hsr wx)) ?_
            have hcl := allM_any (t1 6 ta) (ndK 6 (n + 1 + 1 + 1 + 1) 1) X2 (ht.later SX2.bel) SX2.u3 (HL2.out 6) (HI2.out 6) oa2 (cap - i) zs (hrr.later (BV.trans (BX2.mono BV.size))) (by omega)
            unfold ND.v ndK at hcl
            refine cl 12 103 37 #[.agg #[.int .i64 6, .int .i64 0, .slice none 0 0, .string ⟨#[]⟩, .slice (some ⟨n + 1 + 1 + 1 + 1, 0, none⟩) 1 1], .slice oa2 zs.length (cap - i)] rfl rfl (hcl) ?_
            rintro e X2b ⟨⟨b2, rfl, hb2⟩, hc⟩
            have BX2b : Below V2.heap.size V2 X2b := BX2.trans (hc.mono BX2.size)
            refine ⟨_, rfl, hc.mono BX2.size, ?_⟩
            refine on 13 104 (.bool b2) rfl ?_
            refine on 14 105 (.bool b2) rfl ?_
            refine on 15 13 (.bool b2) rfl ?_
            refine U.Reg.done (by kernel_rfl) ?_
            simp only [U.Reg.ov, Act.put, List.setIfInBounds_toArray, List.set_cons_succ, List.set_cons_zero]
            clear hcl hc hb
            have BZ : Below Y5.heap.size Y5 (X2b) := nx hB (nx BV (BX2b))
            have HP2 := hide (HX.out (AllP tb) b1 false HP.out (fun _ => hb1) (fun h => absurd hA h))
            rw [Bool.false_or] at HP2
            have HQ2 := hide (HX.out (AllP (t1 6 ta)) b2 false HQ.out (fun _ => hb2) (fun h => absurd hA h))
            rw [Bool.false_or] at HQ2
            go_wp2
            exact ⟨⟨b1, b2, i + 1, rfl, rfl, by go_num, by omega, HP2, HQ2, BZ⟩, by simp [intOf]; omega⟩
      · have HA : Hid (∀ b : Bool, (b = true ↔ AllP ta ys) → b = false) := hide (fun b hb => by
            cases b with
            | false => rfl
            | true => exact absurd (hb.1 rfl) hA)
        cases p with
        | true =>
          cases q with
          | true =>
            have HPE := hide (HP.out.1 rfl)
            have HQE := hide (HQ.out.1 rfl)
            go_wp2_with fail
            obtain ⟨V, hV⟩ : ∃ V, wr = V := ⟨_, rfl⟩
            rw [hV] at SW hB hrl hrr ⊢
            clear hV
            have SV := SW
            refine U.Reg.start (B := V.heap.size) (by kernel_rfl) ?_
            refine tk 0 76 (.bool true) rfl (fun _ _ => by kernel_rfl) ?_
            refine tk 1 77 (.bool true) rfl (fun _ _ => by kernel_rfl) ?_
            refine sk 2 78 rfl ?_
            refine sk 3 79 rfl ?_
            refine sk 4 80 rfl ?_
            refine sk 5 81 rfl ?_
            refine sk 6 82 rfl ?_
            refine sk 7 83 rfl ?_
            refine sk 8 84 rfl ?_
            refine sk 9 85 rfl ?_
            refine sk 10 86 rfl ?_
            refine sk 11 87 rfl ?_
            refine sk 12 88 rfl ?_
            refine sk 13 89 rfl ?_
            refine tk 14 90 (.bool true) rfl (fun _ _ => by kernel_rfl) ?_
            refine on 15 12 (.bool true) rfl ?_
            refine U.Reg.done (by kernel_rfl) ?_
            simp only [U.Reg.ov, Act.put, List.setIfInBounds_toArray, List.set_cons_succ, List.set_cons_zero]
            have BV : Below V.heap.size V (V.drew) := (Below.refl _ V).drew
            have SK := SW.nx BV
            obtain ⟨Kw, hK⟩ : ∃ Kw, V.drew = Kw := ⟨_, rfl⟩
            rw [hK] at BV SK ⊢
            go_wp2_with fail
            obtain ⟨V2, hV2⟩ : ∃ V2, Kw = V2 := ⟨_, rfl⟩
            rw [hV2] at SK BV ⊢
            have SV2 := SK
            refine U.Reg.start (B := V2.heap.size) (by kernel_rfl) ?_
            refine tk 0 91 (.bool true) rfl (fun _ _ => by kernel_rfl) ?_
            refine tk 1 92 (.bool true) rfl (fun _ _ => by kernel_rfl) ?_
            refine sk 2 93 rfl ?_
            refine sk 3 94 rfl ?_
            refine sk 4 95 rfl ?_
            refine sk 5 96 rfl ?_
            refine sk 6 97 rfl ?_
            refine sk 7 98 rfl ?_
            refine sk 8 99 rfl ?_
            refine sk 9 100 rfl ?_
            refine sk 10 101 rfl ?_
            refine sk 11 102 rfl ?_
            refine sk 12 103 rfl ?_
            refine sk 13 104 rfl ?_
            refine tk 14 105 (.bool true) rfl (fun _ _ => by kernel_rfl) ?_
            refine on 15 13 (.bool true) rfl ?_
            refine U.Reg.done (by kernel_rfl) ?_
            simp only [U.Reg.ov, Act.put, List.setIfInBounds_toArray, List.set_cons_succ, List.set_cons_zero]
            have BZ : Below Y5.heap.size Y5 (V2.drew) := nx hB (nx BV ((Below.refl _ V2).drew))
            have HP2 : Hid (true = true ↔ ∃ j, j < i + 1 ∧ AllP ta (xs.take j) ∧ AllP tb (xs.drop j)) := hide ⟨fun _ => HPE.out.imp fun j h => ⟨by omega, h.2⟩, fun _ => rfl⟩
            have HQ2 : Hid (true = true ↔ ∃ j, j < i + 1 ∧ AllP ta (xs.take j) ∧ AllP (t1 6 ta) (xs.drop j)) := hide ⟨fun _ => HQE.out.imp fun j h => ⟨by omega, h.2⟩, fun _ => rfl⟩
            go_wp2
            exact ⟨⟨true, true, i + 1, rfl, rfl, by go_num, by omega, HP2, HQ2, BZ⟩, by simp [intOf]; omega⟩
          | false =>
            have HPE := hide (HP.out.1 rfl)
            go_wp2_with fail
            obtain ⟨V, hV⟩ : ∃ V, wr = V := ⟨_, rfl⟩
            rw [hV] at SW hB hrl hrr ⊢
            clear hV
            have SV := SW
            refine U.Reg.start (B := V.heap.size) (by kernel_rfl) ?_
            refine tk 0 76 (.bool true) rfl (fun _ _ => by kernel_rfl) ?_
            refine tk 1 77 (.bool true) rfl (fun _ _ => by kernel_rfl) ?_
            refine sk 2 78 rfl ?_
            refine sk 3 79 rfl ?_
            refine sk 4 80 rfl ?_
            refine sk 5 81 rfl ?_
            refine sk 6 82 rfl ?_
            refine sk 7 83 rfl ?_
            refine sk 8 84 rfl ?_
            refine sk 9 85 rfl ?_
            refine sk 10 86 rfl ?_
            refine sk 11 87 rfl ?_
            refine sk 12 88 rfl ?_
            refine sk 13 89 rfl ?_
            refine tk 14 90 (.bool true) rfl (fun _ _ => by kernel_rfl) ?_
            refine on 15 12 (.bool true) rfl ?_
            refine U.Reg.done (by kernel_rfl) ?_
            simp only [U.Reg.ov, Act.put, List.setIfInBounds_toArray, List.set_cons_succ, List.set_cons_zero]
            have BV : Below V.heap.size V (V.drew) := (Below.refl _ V).drew
            have SK := SW.nx BV
            obtain ⟨Kw, hK⟩ : ∃ Kw, V.drew = Kw := ⟨_, rfl⟩
            rw [hK] at BV SK ⊢
            go_wp2_with fail
            obtain ⟨V2, hV2⟩ : ∃ V2, Kw = V2 := ⟨_, rfl⟩
            rw [hV2] at SK BV ⊢
            have SV2 := SK
            refine U.Reg.start (B := V2.heap.size) (by kernel_rfl) ?_
            refine tk 0 91 (.bool false) rfl (fun _ _ => by kernel_rfl) ?_
            refine tk 1 92 (.bool false) rfl (fun _ _ => by kernel_rfl) ?_
            refine tk 2 93 (.agg #[.int .i64 da.k, .int .i64 da.a, .slice da.sp da.sl da.sc, .string da.n, .slice da.kp da.kl da.kc]) rfl (fun _ hb => Reg.ldN rfl rfl ((hb.block _ (Array.getElem?_eq_some_iff.1 (SV2.s.ba)).1).trans SV2.s.ba)) ?_
            refine tk 3 94 (.slice ao xs.length cap) rfl (fun _ _ => by kernel_rfl) ?_
            refine tk 4 95 (.int .i64 (i : Int)) rfl (fun _ _ => by kernel_rfl) ?_
            refine tk 5 96 (.slice oa1 ys.length (cap - 0)) rfl (fun wx _ => Rcl.slt rfl (by kernel_rfl) (by kernel_rfl) (hsl wx)) ?_
            have hcl := allM_any ta da V2.drew (ht.later SV2.drew.bel) (TR.later (fun k hk => SV2.drew.bel.block k hk) _ hTa) hpsa hIa oa1 (cap - 0) ys (RdC32.later hrl BV.drew) (by omega)
            unfold ND.v at hcl
            refine cl 6 97 37 #[.agg #[.int .i64 da.k, .int .i64 da.a, .slice da.sp da.sl da.sc, .string da.n, .slice da.kp da.kl da.kc], .slice oa1 ys.length (cap - 0)] rfl rfl (hcl) ?_
            rintro e X2 ⟨⟨b, rfl, hbb⟩, hb⟩
            obtain rfl : b = false := HA.out b hbb
            refine ⟨_, rfl, hb, ?_⟩
            have BX2 : Below V2.heap.size V2 X2 := (Below.refl _ V2).drew.trans hb
            clear hcl hbb
            refine on 7 98 (.bool false) rfl ?_
            refine sk 8 99 rfl ?_
            refine sk 9 100 rfl ?_
            refine sk 10 101 rfl ?_
            refine sk 11 102 rfl ?_
            refine sk 12 103 rfl ?_
            refine on 13 104 (.bool false) rfl ?_
            refine on 14 105 (.bool false) rfl ?_
            refine on 15 13 (.bool false) rfl ?_
            refine U.Reg.done (by kernel_rfl) ?_
            simp only [U.Reg.ov, Act.put, List.setIfInBounds_toArray, List.set_cons_succ, List.set_cons_zero]
            clear hb
            have BZ : Below Y5.heap.size Y5 (X2) := nx hB (nx BV (BX2))
            have HP2 : Hid (true = true ↔ ∃ j, j < i + 1 ∧ AllP ta (xs.take j) ∧ AllP tb (xs.drop j)) := hide ⟨fun _ => HPE.out.imp fun j h => ⟨by omega, h.2⟩, fun _ => rfl⟩
            have HQ2 := hide (HX.out (AllP (t1 6 ta)) false false HQ.out (fun h => absurd h hA) (fun _ => rfl))
            rw [Bool.false_or] at HQ2
            go_wp2
            exact ⟨⟨true, false, i + 1, rfl, rfl, by go_num, by omega, HP2, HQ2, BZ⟩, by simp [intOf]; omega⟩
        | false =>
          cases q with
          | true =>
            have HQE := hide (HQ.out.1 rfl)
            go_wp2_with fail
            obtain ⟨V, hV⟩ : ∃ V, wr = V := ⟨_, rfl⟩
            rw [hV] at SW hB hrl hrr ⊢
            clear hV
            have SV := SW
            refine U.Reg.start (B := V.heap.size) (by kernel_rfl) ?_
            refine tk 0 76 (.bool false) rfl (fun _ _ => by kernel_rfl) ?_
            refine tk 1 77 (.bool false) rfl (fun _ _ => by kernel_rfl) ?_
            refine tk 2 78 (.agg #[.int .i64 da.k, .int .i64 da.a, .slice da.sp da.sl da.sc, .string da.n, .slice da.kp da.kl da.kc]) rfl (fun _ hb => Reg.ldN rfl rfl ((hb.block _ (Array.getElem?_eq_some_iff.1 (SV.s.ba)).1).trans SV.s.ba)) ?_
            refine tk 3 79 (.slice ao xs.length cap) rfl (fun _ _ => by kernel_rfl) ?_
            refine tk 4 80 (.int .i64 (i : Int)) rfl (fun _ _ => by kernel_rfl) ?_
            refine tk 5 81 (.slice oa1 ys.length (cap - 0)) rfl (fun wx _ => Rcl.slt rfl (by kernel_rfl) (by kernel_rfl) (hsl wx)) ?_
            have hcl := allM_any ta da V.drew (ht.later SV.drew.bel) (TR.later (fun k hk => SV.drew.bel.block k hk) _ hTa) hpsa hIa oa1 (cap - 0) ys (RdC32.later hrl (Below.refl V.heap.size V).drew) (by omega)
            unfold ND.v at hcl
            refine cl 6 82 37 #[.agg #[.int .i64 da.k, .int .i64 da.a, .slice da.sp da.sl da.sc, .string da.n, .slice da.kp da.kl da.kc], .slice oa1 ys.length (cap - 0)] rfl rfl (hcl) ?_
            rintro e X1 ⟨⟨b, rfl, hbb⟩, hb⟩
            obtain rfl : b = false := HA.out b hbb
            refine ⟨_, rfl, hb, ?_⟩
            have BX1 : Below V.heap.size V X1 := (Below.refl _ V).drew.trans hb
            clear hcl hbb
            refine on 7 83 (.bool false) rfl ?_
            refine sk 8 84 rfl ?_
            refine sk 9 85 rfl ?_
            refine sk 10 86 rfl ?_
            refine sk 11 87 rfl ?_
            refine sk 12 88 rfl ?_
            refine on 13 89 (.bool false) rfl ?_
            refine on 14 90 (.bool false) rfl ?_
            refine on 15 12 (.bool false) rfl ?_
            refine U.Reg.done (by kernel_rfl) ?_
            simp only [U.Reg.ov, Act.put, List.setIfInBounds_toArray, List.set_cons_succ, List.set_cons_zero]
            clear hb
            have BV : Below V.heap.size V (X1) := BX1
            have SK := SW.nx BV
            obtain ⟨Kw, hK⟩ : ∃ Kw, X1 = Kw := ⟨_, rfl⟩
            rw [hK] at BV SK ⊢
            go_wp2_with fail
            obtain ⟨V2, hV2⟩ : ∃ V2, Kw = V2 := ⟨_, rfl⟩
            rw [hV2] at SK BV ⊢
            have SV2 := SK
            refine U.Reg.start (B := V2.heap.size) (by kernel_rfl) ?_
            refine tk 0 91 (.bool true) rfl (fun _ _ => by kernel_rfl) ?_
            refine tk 1 92 (.bool true) rfl (fun _ _ => by kernel_rfl) ?_
            refine sk 2 93 rfl ?_
            refine sk 3 94 rfl ?_
            refine sk 4 95 rfl ?_
            refine sk 5 96 rfl ?_
            refine sk 6 97 rfl ?_
            refine sk 7 98 rfl ?_
            refine sk 8 99 rfl ?_
            refine sk 9 100 rfl ?_
            refine sk 10 101 rfl ?_
            refine sk 11 102 rfl ?_
            refine sk 12 103 rfl ?_
            refine sk 13 104 rfl ?_
            refine tk 14 105 (.bool true) rfl (fun _ _ => by kernel_rfl) ?_
            refine on 15 13 (.bool true) rfl ?_
            refine U.Reg.done (by kernel_rfl) ?_
            simp only [U.Reg.ov, Act.put, List.setIfInBounds_toArray, List.set_cons_succ, List.set_cons_zero]
            have BZ : Below Y5.heap.size Y5 (V2.drew) := nx hB (nx BV ((Below.refl _ V2).drew))
            have HP2 := hide (HX.out (AllP tb) false false HP.out (fun h => absurd h hA) (fun _ => rfl))
            rw [Bool.false_or] at HP2
            have HQ2 : Hid (true = true ↔ ∃ j, j < i + 1 ∧ AllP ta (xs.take j) ∧ AllP (t1 6 ta) (xs.drop j)) := hide ⟨fun _ => HQE.out.imp fun j h => ⟨by omega, h.2⟩, fun _ => rfl⟩
            go_wp2
            exact ⟨⟨false, true, i + 1, rfl, rfl, by go_num, by omega, HP2, HQ2, BZ⟩, by simp [intOf]; omega⟩
          | false =>
            go_wp2_with fail
            obtain ⟨V, hV⟩ : ∃ V, wr = V := ⟨_, rfl⟩
            rw [hV] at SW hB hrl hrr ⊢
            clear hV
            have SV := SW
            refine U.Reg.start (B := V.heap.size) (by kernel_rfl) ?_
            refine tk 0 76 (.bool false) rfl (fun _ _ => by kernel_rfl) ?_
            refine tk 1 77 (.bool false) rfl (fun _ _ => by kernel_rfl) ?_
            refine tk 2 78 (.agg #[.int .i64 da.k, .int .i64 da.a, .slice da.sp da.sl da.sc, .string da.n, .slice da.kp da.kl da.kc]) rfl (fun _ hb => Reg.ldN rfl rfl ((hb.block _ (Array.getElem?_eq_some_iff.1 (SV.s.ba)).1).trans SV.s.ba)) ?_
            refine tk 3 79 (.slice ao xs.length cap) rfl (fun _ _ => by kernel_rfl) ?_
            refine tk 4 80 (.int .i64 (i : Int)) rfl (fun _ _ => by kernel_rfl) ?_
            refine tk 5 81 (.slice oa1 ys.length (cap - 0)) rfl (fun wx _ => Rcl.slt rfl (by kernel_rfl) (by kernel_rfl) (hsl wx)) ?_
            have hcl := allM_any ta da V.drew (ht.later SV.drew.bel) (TR.later (fun k hk => SV.drew.bel.block k hk) _ hTa) hpsa hIa oa1 (cap - 0) ys (RdC32.later hrl (Below.refl V.heap.size V).drew) (by omega)
            unfold ND.v at hcl
            refine cl 6 82 37 #[.agg #[.int .i64 da.k, .int .i64 da.a, .slice da.sp da.sl da.sc, .string da.n, .slice da.kp da.kl da.kc], .slice oa1 ys.length (cap - 0)] rfl rfl (hcl) ?_
            rintro e X1 ⟨⟨b, rfl, hbb⟩, hb⟩
            obtain rfl : b = false := HA.out b hbb
            refine ⟨_, rfl, hb, ?_⟩
            have BX1 : Below V.heap.size V X1 := (Below.refl _ V).drew.trans hb
            clear hcl hbb
            refine on 7 83 (.bool false) rfl ?_
            refine sk 8 84 rfl ?_
            refine sk 9 85 rfl ?_
            refine sk 10 86 rfl ?_
            refine sk 11 87 rfl ?_
            refine sk 12 88 rfl ?_
            refine on 13 89 (.bool false) rfl ?_
            refine on 14 90 (.bool false) rfl ?_
            refine on 15 12 (.bool false) rfl ?_
            refine U.Reg.done (by kernel_rfl) ?_
            simp only [U.Reg.ov, Act.put, List.setIfInBounds_toArray, List.set_cons_succ, List.set_cons_zero]
            clear hb
            have BV : Below V.heap.size V (X1) := BX1
            have SK := SW.nx BV
            obtain ⟨Kw, hK⟩ : ∃ Kw, X1 = Kw := ⟨_, rfl⟩
            rw [hK] at BV SK ⊢
            go_wp2_with fail
            obtain ⟨V2, hV2⟩ : ∃ V2, Kw = V2 := ⟨_, rfl⟩
            rw [hV2] at SK BV ⊢
            have SV2 := SK
            refine U.Reg.start (B := V2.heap.size) (by kernel_rfl) ?_
            refine tk 0 91 (.bool false) rfl (fun _ _ => by kernel_rfl) ?_
            refine tk 1 92 (.bool false) rfl (fun _ _ => by kernel_rfl) ?_
            refine tk 2 93 (.agg #[.int .i64 da.k, .int .i64 da.a, .slice da.sp da.sl da.sc, .string da.n, .slice da.kp da.kl da.kc]) rfl (fun _ hb => Reg.ldN rfl rfl ((hb.block _ (Array.getElem?_eq_some_iff.1 (SV2.s.ba)).1).trans SV2.s.ba)) ?_
            refine tk 3 94 (.slice ao xs.length cap) rfl (fun _ _ => by kernel_rfl) ?_
            refine tk 4 95 (.int .i64 (i : Int)) rfl (fun _ _ => by kernel_rfl) ?_
            refine tk 5 96 (.slice oa1 ys.length (cap - 0)) rfl (fun wx _ => Rcl.slt rfl (by kernel_rfl) (by kernel_rfl) (hsl wx)) ?_
            have hcl := allM_any ta da V2.drew (ht.later SV2.drew.bel) (TR.later (fun k hk => SV2.drew.bel.block k hk) _ hTa) hpsa hIa oa1 (cap - 0) ys (RdC32.later hrl BV.drew) (by omega)
            unfold ND.v at hcl
            refine cl 6 97 37 #[.agg #[.int .i64 da.k, .int .i64 da.a, .slice da.sp da.sl da.sc, .string da.n, .slice da.kp da.kl da.kc], .slice oa1 ys.length (cap - 0)] rfl rfl (hcl) ?_
            rintro e X2 ⟨⟨b, rfl, hbb⟩, hb⟩
            obtain rfl : b = false := HA.out b hbb
            refine ⟨_, rfl, hb, ?_⟩
            have BX2 : Below V2.heap.size V2 X2 := (Below.refl _ V2).drew.trans hb
            clear hcl hbb
            refine on 7 98 (.bool false) rfl ?_
            refine sk 8 99 rfl ?_
            refine sk 9 100 rfl ?_
            refine sk 10 101 rfl ?_
            refine sk 11 102 rfl ?_
            refine sk 12 103 rfl ?_
            refine on 13 104 (.bool false) rfl ?_
            refine on 14 105 (.bool false) rfl ?_
            refine on 15 13 (.bool false) rfl ?_
            refine U.Reg.done (by kernel_rfl) ?_
            simp only [U.Reg.ov, Act.put, List.setIfInBounds_toArray, List.set_cons_succ, List.set_cons_zero]
            clear hb
            have BZ : Below Y5.heap.size Y5 (X2) := nx hB (nx BV (BX2))
            have HP2 := hide (HX.out (AllP tb) false false HP.out (fun h => absurd h hA) (fun _ => rfl))
            rw [Bool.false_or] at HP2
            have HQ2 := hide (HX.out (AllP (t1 6 ta)) false false HQ.out (fun h => absurd h hA) (fun _ => rfl))
            rw [Bool.false_or] at HQ2
            go_wp2
            exact ⟨⟨false, false, i + 1, rfl, rfl, by go_num, by omega, HP2, HQ2, BZ⟩, by simp [intOf]; omega⟩
    · obtain rfl : i = xs.length + 1 := by omega
      have H1 : Hid (∀ b : Bool, (b = true ↔ AllP (t2 4 ta tb) xs) → b = p) := hide (parts_cat P1.out HP.out PA.out PB.out)
      have H4 : Hid (∀ b : Bool, (b = true ↔ AllP (t1 7 ta) xs) → b = q) := hide (parts_plus P4.out P3.out HQ.out PA.out)
      have H3 : Hid (∀ b : Bool, (b = true ↔ AllP (t1 6 ta) xs) → b = (q || decide (xs.length = 0))) := hide (parts_star P4.out P3.out HQ.out PA.out)
      have H2 : Hid (∀ a b c : Bool, (a = true ↔ AllP ta xs) → (b = true ↔ AllP tb xs) → (c = true ↔ AllP (t2 5 ta tb) xs) → c = (a || b)) := hide (parts_alt P2.out PA.out PB.out)
      have H2t : Hid (∀ c : Bool, AllP ta xs → (c = true ↔ AllP (t2 5 ta tb) xs) → c = true) := hide (parts_alt2 P2.out)
      have H5 : Hid (∀ a c : Bool, (a = true ↔ AllP ta xs) → (c = true ↔ AllP (t1 8 ta) xs) → c = (a || decide (xs.length = 0))) := hide (parts_opt P5.out PA.out)
      clear HP HQ P1 P2 P3 P4 P5 hB
      have hcl := allM_any ta da wr (ht.later SW.bel) (tr_later hTa SW.bel) hpsa hIa ao cap xs (hx.later SW.bel) (by omega)
      obtain ⟨c0, c1, c2, c3, c4⟩ := cells_bx SW.s.ba
      unfold ND.v at hcl
      go_wp2_with fail
      with_reducible refine hcl.mono ?_
      rintro e X1 ⟨⟨al, rfl, hal⟩, hb⟩
      have T1 := SW.nx hb
      clear hcl c0 c1 c2 c3 c4 SW hb
      have HAL := hide hal
      have hcl := allM_any (t2 4 ta tb) (ndK 4 (n) 2) X1 (ht.later T1.bel) T1.u1 (HL1.out 4) (HI1.out 4) ao cap xs (hx.later T1.bel) (by omega)
      obtain ⟨c0, c1, c2, c3, c4⟩ := cells_bx T1.b1
      unfold ND.v ndK at hcl
      simp only [ndK] at c0 c1 c2 c3 c4
      go_wp2_with fail
      with_reducible refine hcl.mono ?_
      rintro e X2 ⟨⟨k1, rfl, hk1⟩, hb⟩
      have T2 := T1.nx hb
      clear hcl c0 c1 c2 c3 c4 T1 hb
      obtain rfl := H1.out k1 hk1
      clear hk1 H1
      cases k1
      all_goals
        cases al with
        | true =>
          have HA1 := hide (HAL.out.1 rfl)
          have HAI : Hid (true = true ↔ AllP ta xs) := HAL
          clear HAL HAI
          cases q with
          | true =>
            have hcl := allM_any (t2 5 ta tb) (ndK 5 (n + 1 + 1) 2) X2 (ht.later T2.bel) T2.u2 (HL1.out 5) (HI1.out 5) ao cap xs (hx.later T2.bel) (by omega)
            obtain ⟨c0, c1, c2, c3, c4⟩ := cells_bx T2.b2
            unfold ND.v ndK at hcl
            simp only [ndK] at c0 c1 c2 c3 c4
            go_wp2_with fail
            with_reducible refine hcl.mono ?_
            rintro e X3 ⟨⟨k2, rfl, hk2⟩, hb⟩
            have T3 := T2.nx hb
            clear hcl c0 c1 c2 c3 c4 T2 hb
            obtain rfl : k2 = true := H2t.out k2 HA1.out hk2
            clear hk2
            have hcl := allM_any (t1 7 ta) (ndK 7 (n + 1 + 1 + 1 + 1 + 1 + 1) 1) X3 (ht.later T3.bel) T3.u4 (HL2.out 7) (HI2.out 7) ao cap xs (hx.later T3.bel) (by omega)
            obtain ⟨c0, c1, c2, c3, c4⟩ := cells_bx T3.b4
            unfold ND.v ndK at hcl
            simp only [ndK] at c0 c1 c2 c3 c4
            go_wp2_with fail
            with_reducible refine hcl.mono ?_
            rintro e X5 ⟨⟨k4, rfl, hk4⟩, hb⟩
            have T5 := T3.nx hb
            clear hcl c0 c1 c2 c3 c4 T3 hb
            obtain rfl : k4 = true := H4.out k4 hk4
            clear hk4
            have hcl := allM_any (t1 6 ta) (ndK 6 (n + 1 + 1 + 1 + 1) 1) X5 (ht.later T5.bel) T5.u3 (HL2.out 6) (HI2.out 6) ao cap xs (hx.later T5.bel) (by omega)
            obtain ⟨c0, c1, c2, c3, c4⟩ := cells_bx T5.b3
            unfold ND.v ndK at hcl
            simp only [ndK] at c0 c1 c2 c3 c4
            go_wp2_with fail
            with_reducible refine hcl.mono ?_
            rintro e X6 ⟨⟨k5, rfl, hk5⟩, hb⟩
            have T6 := T5.nx hb
            clear hcl c0 c1 c2 c3 c4 T5 hb
            obtain rfl : k5 = true := by have := H3.out k5 hk5; simpa using this
            clear hk5
            have hcl := allM_any (t1 8 ta) (ndK 8 (n + 1 + 1 + 1 + 1 + 1 + 1 + 1 + 1) 1) X6 (ht.later T6.bel) T6.u5 (HL2.out 8) (HI2.out 8) ao cap xs (hx.later T6.bel) (by omega)
            obtain ⟨c0, c1, c2, c3, c4⟩ := cells_bx T6.b5
            unfold ND.v ndK at hcl
            simp only [ndK] at c0 c1 c2 c3 c4
            go_wp2_with fail
            with_reducible refine hcl.mono ?_
            rintro e X7 ⟨⟨k6, rfl, hk6⟩, hb⟩
            have T7 := T6.nx hb
            clear hcl c0 c1 c2 c3 c4 T6 hb
            obtain rfl : k6 = true := by have := H5.out true k6 ⟨fun _ => HA1.out, fun _ => rfl⟩ hk6; simpa using this
            clear hk6
            go_wp2
            go_ret
            exact ⟨by first | rfl | simp, T7.bel⟩
          | false =>
            by_cases h0 : xs.length = 0
            · have hz : decide (xs.length = 0) = true := decide_eq_true h0
              have HZ := hide hz
              clear hz
              have hz1 : ((xs.length : Int) == 0) = true := by rw [h0]; rfl
              have HL0 := hide h0
              clear h0
              have hcl := allM_any (t2 5 ta tb) (ndK 5 (n + 1 + 1) 2) X2 (ht.later T2.bel) T2.u2 (HL1.out 5) (HI1.out 5) ao cap xs (hx.later T2.bel) (by omega)
              obtain ⟨c0, c1, c2, c3, c4⟩ := cells_bx T2.b2
              unfold ND.v ndK at hcl
              simp only [ndK] at c0 c1 c2 c3 c4
              go_wp2_with fail
              with_reducible refine hcl.mono ?_
              rintro e X3 ⟨⟨k2, rfl, hk2⟩, hb⟩
              have T3 := T2.nx hb
              clear hcl c0 c1 c2 c3 c4 T2 hb
              obtain rfl : k2 = true := H2t.out k2 HA1.out hk2
              clear hk2
              have hcl := allM_any (t1 7 ta) (ndK 7 (n + 1 + 1 + 1 + 1 + 1 + 1) 1) X3 (ht.later T3.bel) T3.u4 (HL2.out 7) (HI2.out 7) ao cap xs (hx.later T3.bel) (by omega)
              obtain ⟨c0, c1, c2, c3, c4⟩ := cells_bx T3.b4
              unfold ND.v ndK at hcl
              simp only [ndK] at c0 c1 c2 c3 c4
              go_wp2_with fail
              with_reducible refine hcl.mono ?_
              rintro e X5 ⟨⟨k4, rfl, hk4⟩, hb⟩
              have T5 := T3.nx hb
              clear hcl c0 c1 c2 c3 c4 T3 hb
              obtain rfl : k4 = false := H4.out k4 hk4
              clear hk4
              have hcl := allM_any (t1 6 ta) (ndK 6 (n + 1 + 1 + 1 + 1) 1) X5 (ht.later T5.bel) T5.u3 (HL2.out 6) (HI2.out 6) ao cap xs (hx.later T5.bel) (by omega)
              obtain ⟨c0, c1, c2, c3, c4⟩ := cells_bx T5.b3
              unfold ND.v ndK at hcl
              simp only [ndK] at c0 c1 c2 c3 c4
              go_wp2_with fail
              with_reducible refine hcl.mono ?_
              rintro e X6 ⟨⟨k5, rfl, hk5⟩, hb⟩
              have T6 := T5.nx hb
              clear hcl c0 c1 c2 c3 c4 T5 hb
              obtain rfl : k5 = true := by have := H3.out k5 hk5; rw [HZ.out] at this; simpa using this
              clear hk5
              have hcl := allM_any (t1 8 ta) (ndK 8 (n + 1 + 1 + 1 + 1 + 1 + 1 + 1 + 1) 1) X6 (ht.later T6.bel) T6.u5 (HL2.out 8) (HI2.out 8) ao cap xs (hx.later T6.bel) (by omega)
              obtain ⟨c0, c1, c2, c3, c4⟩ := cells_bx T6.b5
              unfold ND.v ndK at hcl
              simp only [ndK] at c0 c1 c2 c3 c4
              go_wp2_with fail
              with_reducible refine hcl.mono ?_
              rintro e X7 ⟨⟨k6, rfl, hk6⟩, hb⟩
              have T7 := T6.nx hb
              clear hcl c0 c1 c2 c3 c4 T6 hb
              obtain rfl : k6 = true := by have := H5.out true k6 ⟨fun _ => HA1.out, fun _ => rfl⟩ hk6; simpa using this
              clear hk6
              go_wp2
              go_ret
              exact ⟨by first | rfl | simp, T7.bel⟩
            · have hz : decide (xs.length = 0) = false := decide_eq_false h0
              have HZ := hide hz
              clear hz
              have hz1 : ((xs.length : Int) == 0) = false := by rw [beq_eq_false_iff_ne]; omega
              have HL0 := hide h0
              clear h0
              have hcl := allM_any (t2 5 ta tb) (ndK 5 (n + 1 + 1) 2) X2 (ht.later T2.bel) T2.u2 (HL1.out 5) (HI1.out 5) ao cap xs (hx.later T2.bel) (by omega)
              obtain ⟨c0, c1, c2, c3, c4⟩ := cells_bx T2.b2
              unfold ND.v ndK at hcl
              simp only [ndK] at c0 c1 c2 c3 c4
              go_wp2_with fail
              with_reducible refine hcl.mono ?_
              rintro e X3 ⟨⟨k2, rfl, hk2⟩, hb⟩
              have T3 := T2.nx hb
              clear hcl c0 c1 c2 c3 c4 T2 hb
              obtain rfl : k2 = true := H2t.out k2 HA1.out hk2
              clear hk2
              have hcl := allM_any (t1 7 ta) (ndK 7 (n + 1 + 1 + 1 + 1 + 1 + 1) 1) X3 (ht.later T3.bel) T3.u4 (HL2.out 7) (HI2.out 7) ao cap xs (hx.later T3.bel) (by omega)
              obtain ⟨c0, c1, c2, c3, c4⟩ := cells_bx T3.b4
              unfold ND.v ndK at hcl
              simp only [ndK] at c0 c1 c2 c3 c4
              go_wp2_with fail
              with_reducible refine hcl.mono ?_
              rintro e X5 ⟨⟨k4, rfl, hk4⟩, hb⟩
              have T5 := T3.nx hb
              clear hcl c0 c1 c2 c3 c4 T3 hb
              obtain rfl : k4 = false := H4.out k4 hk4
              clear hk4
              have hcl := allM_any (t1 6 ta) (ndK 6 (n + 1 + 1 + 1 + 1) 1) X5 (ht.later T5.bel) T5.u3 (HL2.out 6) (HI2.out 6) ao cap xs (hx.later T5.bel) (by omega)
              obtain ⟨c0, c1, c2, c3, c4⟩ := cells_bx T5.b3
              unfold ND.v ndK at hcl
              simp only [ndK] at c0 c1 c2 c3 c4
              go_wp2_with fail
              with_reducible refine hcl.mono ?_
              rintro e X6 ⟨⟨k5, rfl, hk5⟩, hb⟩
              have T6 := T5.nx hb
              clear hcl c0 c1 c2 c3 c4 T5 hb
              obtain rfl : k5 = false := by have := H3.out k5 hk5; rw [HZ.out] at this; simpa using this
              clear hk5
              have hcl := allM_any (t1 8 ta) (ndK 8 (n + 1 + 1 + 1 + 1 + 1 + 1 + 1 + 1) 1) X6 (ht.later T6.bel) T6.u5 (HL2.out 8) (HI2.out 8) ao cap xs (hx.later T6.bel) (by omega)
              obtain ⟨c0, c1, c2, c3, c4⟩ := cells_bx T6.b5
              unfold ND.v ndK at hcl
              simp only [ndK] at c0 c1 c2 c3 c4
              go_wp2_with fail
              with_reducible refine hcl.mono ?_
              rintro e X7 ⟨⟨k6, rfl, hk6⟩, hb⟩
              have T7 := T6.nx hb
              clear hcl c0 c1 c2 c3 c4 T6 hb
              obtain rfl : k6 = true := by have := H5.out true k6 ⟨fun _ => HA1.out, fun _ => rfl⟩ hk6; simpa using this
              clear hk6
              go_wp2
              go_ret
              exact ⟨by first | rfl | simp, T7.bel⟩
        | false =>
          have HA1 : Hid (¬ AllP ta xs) := hide (fun h => by have := HAL.out.2 h; cases this)
          clear HAL
          cases q with
          | true =>
            by_cases h0 : xs.length = 0
            · have hz : decide (xs.length = 0) = true := decide_eq_true h0
              have HZ := hide hz
              clear hz
              have hz1 : ((xs.length : Int) == 0) = true := by rw [h0]; rfl
              have HL0 := hide h0
              clear h0
              have hcl := allM_any (t2 5 ta tb) (ndK 5 (n + 1 + 1) 2) X2 (ht.later T2.bel) T2.u2 (HL1.out 5) (HI1.out 5) ao cap xs (hx.later T2.bel) (by omega)
              obtain ⟨c0, c1, c2, c3, c4⟩ := cells_bx T2.b2
              unfold ND.v ndK at hcl
              simp only [ndK] at c0 c1 c2 c3 c4
              go_wp2_with fail
              with_reducible refine hcl.mono ?_
              rintro e X3 ⟨⟨k2, rfl, hk2⟩, hb⟩
              have T3 := T2.nx hb
              clear hcl c0 c1 c2 c3 c4 T2 hb
              have hcl := allM_any tb db X3 (ht.later T3.bel) (tr_later hTb T3.bel) hpsb hIb ao cap xs (hx.later T3.bel) (by omega)
              obtain ⟨c0, c1, c2, c3, c4⟩ := cells_bx T3.s.bb
              unfold ND.v at hcl
              go_wp2_with fail
              with_reducible refine hcl.mono ?_
              rintro e X4 ⟨⟨k3, rfl, hk3⟩, hb⟩
              have T4 := T3.nx hb
              clear hcl c0 c1 c2 c3 c4 T3 hb
              obtain rfl : k2 = k3 := by have := H2.out false k3 k2 ⟨fun h => (by cases h), fun h => absurd h HA1.out⟩ hk3 hk2; simpa using this
              clear hk2 hk3
              have hcl := allM_any (t1 7 ta) (ndK 7 (n + 1 + 1 + 1 + 1 + 1 + 1) 1) X4 (ht.later T4.bel) T4.u4 (HL2.out 7) (HI2.out 7) ao cap xs (hx.later T4.bel) (by omega)
              obtain ⟨c0, c1, c2, c3, c4⟩ := cells_bx T4.b4
              unfold ND.v ndK at hcl
              simp only [ndK] at c0 c1 c2 c3 c4
              go_wp2_with fail
              with_reducible refine hcl.mono ?_
              rintro e X5 ⟨⟨k4, rfl, hk4⟩, hb⟩
              have T5 := T4.nx hb
              clear hcl c0 c1 c2 c3 c4 T4 hb
              obtain rfl : k4 = true := H4.out k4 hk4
              clear hk4
              have hcl := allM_any (t1 6 ta) (ndK 6 (n + 1 + 1 + 1 + 1) 1) X5 (ht.later T5.bel) T5.u3 (HL2.out 6) (HI2.out 6) ao cap xs (hx.later T5.bel) (by omega)
              obtain ⟨c0, c1, c2, c3, c4⟩ := cells_bx T5.b3
              unfold ND.v ndK at hcl
              simp only [ndK] at c0 c1 c2 c3 c4
              go_wp2_with fail
              with_reducible refine hcl.mono ?_
              rintro e X6 ⟨⟨k5, rfl, hk5⟩, hb⟩
              have T6 := T5.nx hb
              clear hcl c0 c1 c2 c3 c4 T5 hb
              obtain rfl : k5 = true := by have := H3.out k5 hk5; simpa using this
              clear hk5
              have hcl := allM_any (t1 8 ta) (ndK 8 (n + 1 + 1 + 1 + 1 + 1 + 1 + 1 + 1) 1) X6 (ht.later T6.bel) T6.u5 (HL2.out 8) (HI2.out 8) ao cap xs (hx.later T6.bel) (by omega)
              obtain ⟨c0, c1, c2, c3, c4⟩ := cells_bx T6.b5
              unfold ND.v ndK at hcl
              simp only [ndK] at c0 c1 c2 c3 c4
              go_wp2_with fail
              with_reducible refine hcl.mono ?_
              rintro e X7 ⟨⟨k6, rfl, hk6⟩, hb⟩
              have T7 := T6.nx hb
              clear hcl c0 c1 c2 c3 c4 T6 hb
              obtain rfl : k6 = true := by have := H5.out false k6 ⟨fun h => (by cases h), fun h => absurd h HA1.out⟩ hk6; rw [HZ.out] at this; simpa using this
              clear hk6
              go_wp2
              go_ret
              exact ⟨by first | rfl | simp, T7.bel⟩
            · have hz : decide (xs.length = 0) = false := decide_eq_false h0
              have HZ := hide hz
              clear hz
              have hz1 : ((xs.length : Int) == 0) = false := by rw [beq_eq_false_iff_ne]; omega
              have HL0 := hide h0
              clear h0
              have hcl := allM_any (t2 5 ta tb) (ndK 5 (n + 1 + 1) 2) X2 (ht.later T2.bel) T2.u2 (HL1.out 5) (HI1.out 5) ao cap xs (hx.later T2.bel) (by omega)
              obtain ⟨c0, c1, c2, c3, c4⟩ := cells_bx T2.b2
              unfold ND.v ndK at hcl
              simp only [ndK] at c0 c1 c2 c3 c4
              go_wp2_with fail
              with_reducible refine hcl.mono ?_
              rintro e X3 ⟨⟨k2, rfl, hk2⟩, hb⟩
              have T3 := T2.nx hb
              clear hcl c0 c1 c2 c3 c4 T2 hb
              have hcl := allM_any tb db X3 (ht.later T3.bel) (tr_later hTb T3.bel) hpsb hIb ao cap xs (hx.later T3.bel) (by omega)
              obtain ⟨c0, c1, c2, c3, c4⟩ := cells_bx T3.s.bb
              unfold ND.v at hcl
              go_wp2_with fail
              with_reducible refine hcl.mono ?_
              rintro e X4 ⟨⟨k3, rfl, hk3⟩, hb⟩
              have T4 := T3.nx hb
              clear hcl c0 c1 c2 c3 c4 T3 hb
              obtain rfl : k2 = k3 := by have := H2.out false k3 k2 ⟨fun h => (by cases h), fun h => absurd h HA1.out⟩ hk3 hk2; simpa using this
              clear hk2 hk3
              have hcl := allM_any (t1 7 ta) (ndK 7 (n + 1 + 1 + 1 + 1 + 1 + 1) 1) X4 (ht.later T4.bel) T4.u4 (HL2.out 7) (HI2.out 7) ao cap xs (hx.later T4.bel) (by omega)
              obtain ⟨c0, c1, c2, c3, c4⟩ := cells_bx T4.b4
              unfold ND.v ndK at hcl
              simp only [ndK] at c0 c1 c2 c3 c4
              go_wp2_with fail
              with_reducible refine hcl.mono ?_
              rintro e X5 ⟨⟨k4, rfl, hk4⟩, hb⟩
              have T5 := T4.nx hb
              clear hcl c0 c1 c2 c3 c4 T4 hb
              obtain rfl : k4 = true := H4.out k4 hk4
              clear hk4
              have hcl := allM_any (t1 6 ta) (ndK 6 (n + 1 + 1 + 1 + 1) 1) X5 (ht.later T5.bel) T5.u3 (HL2.out 6) (HI2.out 6) ao cap xs (hx.later T5.bel) (by omega)
              obtain ⟨c0, c1, c2, c3, c4⟩ := cells_bx T5.b3
              unfold ND.v ndK at hcl
              simp only [ndK] at c0 c1 c2 c3 c4
              go_wp2_with fail
              with_reducible refine hcl.mono ?_
              rintro e X6 ⟨⟨k5, rfl, hk5⟩, hb⟩
              have T6 := T5.nx hb
              clear hcl c0 c1 c2 c3 c4 T5 hb
              obtain rfl : k5 = true := by have := H3.out k5 hk5; simpa using this
              clear hk5
              have hcl := allM_any (t1 8 ta) (ndK 8 (n + 1 + 1 + 1 + 1 + 1 + 1 + 1 + 1) 1) X6 (ht.later T6.bel) T6.u5 (HL2.out 8) (HI2.out 8) ao cap xs (hx.later T6.bel) (by omega)
              obtain ⟨c0, c1, c2, c3, c4⟩ := cells_bx T6.b5
              unfold ND.v ndK at hcl
              simp only [ndK] at c0 c1 c2 c3 c4
              go_wp2_with fail
              with_reducible refine hcl.mono ?_
              rintro e X7 ⟨⟨k6, rfl, hk6⟩, hb⟩
              have T7 := T6.nx hb
              clear hcl c0 c1 c2 c3 c4 T6 hb
              obtain rfl : k6 = false := by have := H5.out false k6 ⟨fun h => (by cases h), fun h => absurd h HA1.out⟩ hk6; rw [HZ.out] at this; simpa using this
              clear hk6
              go_wp2
              go_ret
              exact ⟨by first | rfl | simp, T7.bel⟩
          | false =>
            by_cases h0 : xs.length = 0
            · have hz : decide (xs.length = 0) = true := decide_eq_true h0
              have HZ := hide hz
              clear hz
              have hz1 : ((xs.length : Int) == 0) = true := by rw [h0]; rfl
              have HL0 := hide h0
              clear h0
              have hcl := allM_any (t2 5 ta tb) (ndK 5 (n + 1 + 1) 2) X2 (ht.later T2.bel) T2.u2 (HL1.out 5) (HI1.out 5) ao cap xs (hx.later T2.bel) (by omega)
              obtain ⟨c0, c1, c2, c3, c4⟩ := cells_bx T2.b2
              unfold ND.v ndK at hcl
              simp only [ndK] at c0 c1 c2 c3 c4
              go_wp2_with fail
              with_reducible refine hcl.mono ?_
              rintro e X3 ⟨⟨k2, rfl, hk2⟩, hb⟩
              have T3 := T2.nx hb
              clear hcl c0 c1 c2 c3 c4 T2 hb
              have hcl := allM_any tb db X3 (ht.later T3.bel) (tr_later hTb T3.bel) hpsb hIb ao cap xs (hx.later T3.bel) (by omega)
              obtain ⟨c0, c1, c2, c3, c4⟩ := cells_bx T3.s.bb
              unfold ND.v at hcl
              go_wp2_with fail
              with_reducible refine hcl.mono ?_
              rintro e X4 ⟨⟨k3, rfl, hk3⟩, hb⟩
              have T4 := T3.nx hb
              clear hcl c0 c1 c2 c3 c4 T3 hb
              obtain rfl : k2 = k3 := by have := H2.out false k3 k2 ⟨fun h => (by cases h), fun h => absurd h HA1.out⟩ hk3 hk2; simpa using this
              clear hk2 hk3
              have hcl := allM_any (t1 7 ta) (ndK 7 (n + 1 + 1 + 1 + 1 + 1 + 1) 1) X4 (ht.later T4.bel) T4.u4 (HL2.out 7) (HI2.out 7) ao cap xs (hx.later T4.bel) (by omega)
              obtain ⟨c0, c1, c2, c3, c4⟩ := cells_bx T4.b4
              unfold ND.v ndK at hcl
              simp only [ndK] at c0 c1 c2 c3 c4
              go_wp2_with fail
              with_reducible refine hcl.mono ?_
              rintro e X5 ⟨⟨k4, rfl, hk4⟩, hb⟩
              have T5 := T4.nx hb
              clear hcl c0 c1 c2 c3 c4 T4 hb
              obtain rfl : k4 = false := H4.out k4 hk4
              clear hk4
              have hcl := allM_any (t1 6 ta) (ndK 6 (n + 1 + 1 + 1 + 1) 1) X5 (ht.later T5.bel) T5.u3 (HL2.out 6) (HI2.out 6) ao cap xs (hx.later T5.bel) (by omega)
              obtain ⟨c0, c1, c2, c3, c4⟩ := cells_bx T5.b3
              unfold ND.v ndK at hcl
              simp only [ndK] at c0 c1 c2 c3 c4
              go_wp2_with fail
              with_reducible refine hcl.mono ?_
              rintro e X6 ⟨⟨k5, rfl, hk5⟩, hb⟩
              have T6 := T5.nx hb
              clear hcl c0 c1 c2 c3 c4 T5 hb
              obtain rfl : k5 = true := by have := H3.out k5 hk5; rw [HZ.out] at this; simpa using this
              clear hk5
              have hcl := allM_any (t1 8 ta) (ndK 8 (n + 1 + 1 + 1 + 1 + 1 + 1 + 1 + 1) 1) X6 (ht.later T6.bel) T6.u5 (HL2.out 8) (HI2.out 8) ao cap xs (hx.later T6.bel) (by omega)
              obtain ⟨c0, c1, c2, c3, c4⟩ := cells_bx T6.b5
              unfold ND.v ndK at hcl
              simp only [ndK] at c0 c1 c2 c3 c4
              go_wp2_with fail
              with_reducible refine hcl.mono ?_
              rintro e X7 ⟨⟨k6, rfl, hk6⟩, hb⟩
              have T7 := T6.nx hb
              clear hcl c0 c1 c2 c3 c4 T6 hb
              obtain rfl : k6 = true := by have := H5.out false k6 ⟨fun h => (by cases h), fun h => absurd h HA1.out⟩ hk6; rw [HZ.out] at this; simpa using this
              clear hk6
              go_wp2
              go_ret
              exact ⟨by first | rfl | simp, T7.bel⟩
            · have hz : decide (xs.length = 0) = false := decide_eq_false h0
              have HZ := hide hz
              clear hz
              have hz1 : ((xs.length : Int) == 0) = false := by rw [beq_eq_false_iff_ne]; omega
              have HL0 := hide h0
              clear h0
              have hcl := allM_any (t2 5 ta tb) (ndK 5 (n + 1 + 1) 2) X2 (ht.later T2.bel) T2.u2 (HL1.out 5) (HI1.out 5) ao cap xs (hx.later T2.bel) (by omega)
              obtain ⟨c0, c1, c2, c3, c4⟩ := cells_bx T2.b2
              unfold ND.v ndK at hcl
              simp only [ndK] at c0 c1 c2 c3 c4
              go_wp2_with fail
              with_reducible refine hcl.mono ?_
              rintro e X3 ⟨⟨k2, rfl, hk2⟩, hb⟩
              have T3 := T2.nx hb
              clear hcl c0 c1 c2 c3 c4 T2 hb
              have hcl := allM_any tb db X3 (ht.later T3.bel) (tr_later hTb T3.bel) hpsb hIb ao cap xs (hx.later T3.bel) (by omega)
              obtain ⟨c0, c1, c2, c3, c4⟩ := cells_bx T3.s.bb
              unfold ND.v at hcl
              go_wp2_with fail
              with_reducible refine hcl.mono ?_
              rintro e X4 ⟨⟨k3, rfl, hk3⟩, hb⟩
              have T4 := T3.nx hb
              clear hcl c0 c1 c2 c3 c4 T3 hb
              obtain rfl : k2 = k3 := by have := H2.out false k3 k2 ⟨fun h => (by cases h), fun h => absurd h HA1.out⟩ hk3 hk2; simpa using this
              clear hk2 hk3
              have hcl := allM_any (t1 7 ta) (ndK 7 (n + 1 + 1 + 1 + 1 + 1 + 1) 1) X4 (ht.later T4.bel) T4.u4 (HL2.out 7) (HI2.out 7) ao cap xs (hx.later T4.bel) (by omega)
              obtain ⟨c0, c1, c2, c3, c4⟩ := cells_bx T4.b4
              unfold ND.v ndK at hcl
              simp only [ndK] at c0 c1 c2 c3 c4
              go_wp2_with fail
              with_reducible refine hcl.mono ?_
              rintro e X5 ⟨⟨k4, rfl, hk4⟩, hb⟩
              have T5 := T4.nx hb
              clear hcl c0 c1 c2 c3 c4 T4 hb
              obtain rfl : k4 = false := H4.out k4 hk4
              clear hk4
              have hcl := allM_any (t1 6 ta) (ndK 6 (n + 1 + 1 + 1 + 1) 1) X5 (ht.later T5.bel) T5.u3 (HL2.out 6) (HI2.out 6) ao cap xs (hx.later T5.bel) (by omega)
              obtain ⟨c0, c1, c2, c3, c4⟩ := cells_bx T5.b3
              unfold ND.v ndK at hcl
              simp only [ndK] at c0 c1 c2 c3 c4
              go_wp2_with fail
              with_reducible refine hcl.mono ?_
              rintro e X6 ⟨⟨k5, rfl, hk5⟩, hb⟩
              have T6 := T5.nx hb
              clear hcl c0 c1 c2 c3 c4 T5 hb
              obtain rfl : k5 = false := by have := H3.out k5 hk5; rw [HZ.out] at this; simpa using this
              clear hk5
              have hcl := allM_any (t1 8 ta) (ndK 8 (n + 1 + 1 + 1 + 1 + 1 + 1 + 1 + 1) 1) X6 (ht.later T6.bel) T6.u5 (HL2.out 8) (HI2.out 8) ao cap xs (hx.later T6.bel) (by omega)
              obtain ⟨c0, c1, c2, c3, c4⟩ := cells_bx T6.b5
              unfold ND.v ndK at hcl
              simp only [ndK] at c0 c1 c2 c3 c4
              go_wp2_with fail
              with_reducible refine hcl.mono ?_
              rintro e X7 ⟨⟨k6, rfl, hk6⟩, hb⟩
              have T7 := T6.nx hb
              clear hcl c0 c1 c2 c3 c4 T6 hb
              obtain rfl : k6 = false := by have := H5.out false k6 ⟨fun h => (by cases h), fun h => absurd h HA1.out⟩ hk6; rw [HZ.out] at this; simpa using this
              clear hk6
              go_wp2
              go_ret
              exact ⟨by first | rfl | simp, T7.bel⟩
end Go.Proofs.YteaaijhppmkfeaaGreatDoor
