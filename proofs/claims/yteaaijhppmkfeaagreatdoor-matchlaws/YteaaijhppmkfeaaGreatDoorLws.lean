/- MatchLaws. -/
import Derived.Test.YteaaijhppmkfeaaGreatDoorLwq
namespace Go.Proofs.YteaaijhppmkfeaaGreatDoor
open Go.RowKit Go.Shelf
open E (Ps Rx T rxOf Vp Star)
attribute [local go_sem] Oper.semAt_some run_eqB run_len44
theorem cs_at (l : List ND) : ∀ (k : Nat) (hk : k < l.length) (j : Nat), j < 5 → (l.flatMap ND.cs)[k * 5 + j]? = l[k].cs[j]? := by
 induction l with
 | nil => intro k hk; simp at hk
 | cons a l ih =>
   intro k hk j hj
   rw [List.flatMap_cons]
   cases k with
   | zero => rw [List.getElem?_append_left (by simp [ND.cs]; omega)]; simp
   | succ k =>
     rw [List.getElem?_append_right (by simp [ND.cs]; omega)]
     have e : (k + 1) * 5 + j - a.cs.length = k * 5 + j := by simp [ND.cs]; omega
     rw [e, ih k (by simpa using hk) j hj]
     simp
def C5 (w : World) (b off : Nat) (d : ND) : Prop := w.cell? ⟨b, off, none⟩ = some (.int .i64 d.k) ∧ w.cell? ⟨b, off + 1, none⟩ = some (.int .i64 d.a) ∧ w.cell? ⟨b, off + 2, none⟩ = some (.slice d.sp d.sl d.sc) ∧ w.cell? ⟨b, off + 3, none⟩ = some (.string d.n) ∧ w.cell? ⟨b, off + 4, none⟩ = some (.slice d.kp d.kl d.kc)
theorem C5.later {w W : World} {b off : Nat} {d : ND} (h : C5 w b off d) (hb : W.heap[b]? = w.heap[b]?) : C5 W b off d := by
 have c : ∀ j, W.cell? ⟨b, j, none⟩ = w.cell? ⟨b, j, none⟩ := fun j => World.cell?_of_block (w := w) (a := ⟨b, j, none⟩) hb
 unfold C5 at h ⊢
 rw [c, c, c, c, c]; exact h
theorem row_cell {X : World} {b : Nat} {l : List ND} (h : X.heap[b]? = some (.cells (l.flatMap ND.cs).toArray 66)) (k : Nat) (hk : k < l.length) : C5 X b (k * 5) l[k] := by
 have f : ∀ j, j < 5 → X.cell? ⟨b, k * 5 + j, none⟩ = l[k].cs[j]? := fun j hj => by
   simp only [World.cell?, h, List.getElem?_toArray]
   exact cs_at l k hk j hj
 exact ⟨f 0 (by omega), f 1 (by omega), f 2 (by omega), f 3 (by omega), f 4 (by omega)⟩
theorem ldA {w : World} {ρ : Operand → Value} {o : Oper} {x : Operand} {b off : Nat} {d : ND} (hop : o.op = .load 26 x) (hx : ρ x = .pointer (some ⟨b, off, none⟩)) (h : C5 w b off d) : (execOp ρ o).run Tryz.prog w = .ok (.value d.v) w := by
 obtain ⟨dst, op, type, pos, after, guard⟩ := o
 simp only at hop
 subst hop
 obtain ⟨c0, c1, c2, c3, c4⟩ := h
 have hsz := Tryz.sizeOf26 w
 have hag := Tryz.isAgg26 w
 simp [execOp, hx, Instr.loadAt, Instr.sureAddr, loadVar, Sem.run_bind, hsz, hag, Result.andThen, go_sem, c0, c1, c2, c3, c4, ND.v]
theorem ixA {w : World} {ρ : Operand → Value} {o : Oper} {t : TypeId} {x y : Operand} {b off k n s : Nat} (hop : o.op = .indexAddr t x y) (hx : ρ x = .pointer (some ⟨b, off, none⟩)) (hy : ρ y = .int .i64 (k : Int)) (hk : k < n)
   (ht : Tryz.prog.underlying t = some (.array (Tryz.prog.arrayLen t) (Tryz.prog.elem t))) (hn : Tryz.prog.arrayLen t = n) (hs : (sizeOf (Tryz.prog.elem t)).run Tryz.prog w = .ok s w) : (execOp ρ o).run Tryz.prog w = .ok (.value (.pointer (some ⟨b, off + k * s, none⟩))) w := by
 obtain ⟨dst, op, type, pos, after, guard⟩ := o
 simp only at hop
 subst hop
 have h1 : 0 ≤ (k : Int) ∧ (k : Int) < (n : Int) := by omega
 simp only [execOp, hx, hy, Sem.run_bind]
 rw [run_indexAt_array w t ⟨b, off, none⟩ .i64 (k : Int) ht, hn, if_pos h1, hs]
 simp only [Result.andThen, Int.toNat_natCast, Addr.add_mid, Sem.run_pure]
theorem eqBB {w : World} {ρ : Operand → Value} {o : Oper} {x y : Operand} {b : Bool} (hop : o.op = .binOp .eql 4 x y 4) (hx : ρ x = .bool b) (hy : ρ y = .bool b) : (execOp ρ o).run Tryz.prog w = .ok (.value (.bool true)) w := by
 obtain ⟨dst, op, type, pos, after, guard⟩ := o
 simp only at hop
 subst hop
 cases b <;> simp [execOp, hx, hy, go_sem]
theorem neBB {w : World} {ρ : Operand → Value} {o : Oper} {x y : Operand} {b : Bool} (hop : o.op = .binOp .neq 4 x y 4) (hx : ρ x = .bool b) (hy : ρ y = .bool b) : (execOp ρ o).run Tryz.prog w = .ok (.value (.bool false)) w := by
 obtain ⟨dst, op, type, pos, after, guard⟩ := o
 simp only at hop
 subst hop
 cases b <;> simp [execOp, hx, hy, go_sem]
theorem star_star {L : List Int → Prop} {u : List Int} (h : Star (Star L) u) : Star L u := by
 induction h with
 | nil => exact .nil
 | app hx _ ih => exact hx.join ih
theorem star_mono {L M : List Int → Prop} (h : ∀ u, L u → M u) {u : List Int} (hu : Star L u) : Star M u := by
 induction hu with
 | nil => exact .nil
 | app hx _ ih => exact .app (h _ hx) ih
theorem tt_ok {a b c : T} (ha : E.PlainP a) (hb : E.PlainP b) (hc : E.PlainP c) (sa : (E.pre a a).length ≤ 60) (sb : (E.pre b b).length ≤ 60) (sc : (E.pre c c).length ≤ 60) (ia : InT a) (ib : InT b) (ic : InT c) : ∀ t ∈ ttL a b c, E.PlainP t ∧ InT t ∧ (E.pre t t).length ≤ 1000000 := by
 have s1 := len_t2 4 a b
 have s2 := len_t2 4 b c
 have s3 := len_t2 4 a c
 have s4 := len_t2 5 b c
 have s5 := len_t1 6 a
 have s6 := len_t0
 have p1 : E.PlainP (t2 4 a b) := plain_t2 (.inl rfl) ha hb (by omega)
 have p2 : E.PlainP (t2 4 b c) := plain_t2 (.inl rfl) hb hc (by omega)
 have p3 : E.PlainP (t2 4 a c) := plain_t2 (.inl rfl) ha hc (by omega)
 have p4 : E.PlainP (t2 5 b c) := plain_t2 (.inr rfl) hb hc (by omega)
 have p5 : E.PlainP (t1 6 a) := plain_t1 (.inl rfl) ha (by omega)
 have i1 : InT (t2 4 a b) := inT_t2 ia ib
 have i2 : InT (t2 4 b c) := inT_t2 ib ic
 have i3 : InT (t2 4 a c) := inT_t2 ia ic
 have i4 : InT (t2 5 b c) := inT_t2 ib ic
 have i5 : InT (t1 6 a) := inT_t1 ia
 intro t ht
 simp only [ttL, List.mem_cons, List.not_mem_nil, or_false] at ht
 rcases ht with rfl | rfl | rfl | rfl | rfl | rfl | rfl | rfl | rfl | rfl | rfl | rfl
 · exact ⟨plain_t2 (.inr rfl) ha hb (by omega), inT_t2 ia ib, by rw [len_t2]; omega⟩
 · exact ⟨plain_t2 (.inr rfl) hb ha (by omega), inT_t2 ib ia, by rw [len_t2]; omega⟩
 · exact ⟨plain_t2 (.inr rfl) ha ha (by omega), inT_t2 ia ia, by rw [len_t2]; omega⟩
 · exact ⟨ha, ia, by omega⟩
 · exact ⟨plain_t2 (.inl rfl) p1 hc (by omega), inT_t2 i1 ic, by rw [len_t2]; omega⟩
 · exact ⟨plain_t2 (.inl rfl) ha p2 (by omega), inT_t2 ia i2, by rw [len_t2]; omega⟩
 · exact ⟨plain_t1 (.inl rfl) p5 (by omega), inT_t1 i5, by rw [len_t1]; omega⟩
 · exact ⟨p5, i5, by omega⟩
 · exact ⟨plain_t2 (.inl rfl) ha p4 (by omega), inT_t2 ia i4, by rw [len_t2]; omega⟩
 · exact ⟨plain_t2 (.inr rfl) p1 p3 (by omega), inT_t2 i1 i3, by rw [len_t2]; omega⟩
 · exact ⟨plain_t1 (.inr (.inr rfl)) ha (by omega), inT_t1 ia, by rw [len_t1]; omega⟩
 · exact ⟨plain_t2 (.inr rfl) plain_t0 ha (by omega), inT_t2 inT_t0 ia, by rw [len_t2]; omega⟩
theorem cat_assoc {P Q R : List Int → Prop} (u : List Int) : (∃ x y, u = x ++ y ∧ (∃ p q, x = p ++ q ∧ P p ∧ Q q) ∧ R y) ↔ ∃ x y, u = x ++ y ∧ P x ∧ ∃ p q, y = p ++ q ∧ Q p ∧ R q :=
 ⟨fun ⟨_, y, e, ⟨p, q, e2, h1, h2⟩, h3⟩ => ⟨p, q ++ y, by rw [e, e2, List.append_assoc], h1, q, y, rfl, h2, h3⟩, fun ⟨x, _, e, h1, p, q, e2, h2, h3⟩ => ⟨x ++ p, q, by rw [e, e2, List.append_assoc], ⟨x, p, rfl, h1, h2⟩, h3⟩⟩
theorem tt_same {a b c : T} {xs : List Int} (h : ∀ t ∈ ttL a b c, E.PlainP t ∧ InT t ∧ (E.pre t t).length ≤ 1000000) : ∀ i, i < 6 → ∀ (h0 : 2 * i < (ttL a b c).length) (h1 : 2 * i + 1 < (ttL a b c).length), AllP (ttL a b c)[2 * i] xs ↔ AllP (ttL a b c)[2 * i + 1] xs := by
 intro i hi h0 h1
 have q0 := (h _ (List.getElem_mem h0)).1
 have q1 := (h _ (List.getElem_mem h1)).1
 refine ⟨fun k => ⟨q1, ?_⟩, fun k => ⟨q0, ?_⟩⟩ <;> have k := k.2 <;> clear q0 q1 h
 all_goals
   match i, hi with
   | 0, _ => revert k; show (rxOf _).L xs → (rxOf _).L xs; simp only [ttL, List.getElem_cons_zero, List.getElem_cons_succ, Nat.mul_zero, L_alt]; exact Or.symm
   | 1, _ => revert k; show (rxOf _).L xs → (rxOf _).L xs; simp only [ttL, Nat.mul_one, List.getElem_cons_zero, List.getElem_cons_succ, L_alt, or_self]; exact id
   | 2, _ => revert k; show (rxOf _).L xs → (rxOf _).L xs; simp only [ttL, List.getElem_cons_zero, List.getElem_cons_succ, L_cat]; first | exact (cat_assoc xs).1 | exact (cat_assoc xs).2
   | 3, _ => revert k; show (rxOf _).L xs → (rxOf _).L xs; simp only [ttL, List.getElem_cons_zero, List.getElem_cons_succ, L_star]; first | exact (fun k => star_star (star_mono (fun u hu => (L_star _ _).1 hu) k)) | exact (fun k => Star.one ((L_star _ _).2 k))
   | 4, _ => revert k; show (rxOf _).L xs → (rxOf _).L xs; simp only [ttL, List.getElem_cons_zero, List.getElem_cons_succ, L_alt, L_cat]; first | exact (fun ⟨x, y, e, p, q⟩ => q.elim (fun q => .inl ⟨x, y, e, p, q⟩) (fun q => .inr ⟨x, y, e, p, q⟩)) | exact (fun k => k.elim (fun ⟨x, y, e, p, q⟩ => ⟨x, y, e, p, .inl q⟩) (fun ⟨x, y, e, p, q⟩ => ⟨x, y, e, p, .inr q⟩))
   | 5, _ => revert k; show (rxOf _).L xs → (rxOf _).L xs; simp only [ttL, List.getElem_cons_zero, List.getElem_cons_succ, L_alt, L_opt, L_none]; exact id
theorem none_cat {a : T} {xs : List Int} (h : E.PlainP (t2 4 t0 a)) (ha : E.PlainP a) : AllP (t2 4 t0 a) xs ↔ AllP a xs := by
 unfold AllP
 rw [L_cat]
 exact ⟨fun ⟨_, x, y, e, h1, h2⟩ => ⟨ha, by rw [(L_none x).1 h1, List.nil_append] at e; rw [e]; exact h2⟩, fun ⟨_, h2⟩ => ⟨h, [], xs, rfl, (L_none _).2 rfl, h2⟩⟩
theorem plus_cat {a : T} {xs : List Int} (h : E.PlainP (t2 4 a (t1 6 a))) (h7 : E.PlainP (t1 7 a)) : AllP (t1 7 a) xs ↔ AllP (t2 4 a (t1 6 a)) xs := by
 unfold AllP
 rw [L_cat, L_plus]
 exact ⟨fun ⟨_, x, y, e, h1, h2⟩ => ⟨h, x, y, e, h1, (L_star _ _).2 h2⟩, fun ⟨_, x, y, e, h1, h2⟩ => ⟨h7, x, y, e, h1, (L_star _ _).1 h2⟩⟩
set_option maxRecDepth 100000 in
set_option maxHeartbeats 4000000 in
theorem laws_any (ta tb tc : T) (hIa : InT ta) (hIb : InT tb) (hIc : InT tc) (da db dc : ND) (w : World) (ht : Tabs w) (hTa : TR w (fun _ => True) ta da.v) (hTb : TR w (fun _ => True) tb db.v) (hTc : TR w (fun _ => True) tc dc.v) (ao : Option Addr) (cap : Nat) (xs : List Int) (hx : RdC32 w ao xs) (hxl : xs.length ≤ 9223372036854775807) :
   Calls Tryz.prog 10 #[da.v, db.v, dc.v, .slice ao xs.length cap] w fun e w' => e = .returned (.bool true) ∧ Below w.heap.size w w' := by
 have a0 := al1 w (bxN da)
 have n0 := heap_alloc_new w (bxN da)
 have a1 := al1 (w.alloc (bxN da)) (bxN db)
 have n1 := heap_alloc_new (w.alloc (bxN da)) (bxN db)
 have a2 := al1 ((w.alloc (bxN da)).alloc (bxN db)) (bxN dc)
 have n2 := heap_alloc_new ((w.alloc (bxN da)).alloc (bxN db)) (bxN dc)
 rw [World.size_alloc] at n1
 rw [World.size_alloc, World.size_alloc] at n2
 have S0 : St3 w da db dc (((w.alloc (bxN da)).alloc (bxN db)).alloc (bxN dc)) := ⟨nx a0 (nx a1 a2), bx_later (bx_later n0 a1) a2, bx_later n1 a2, n2⟩
 have hk := known8_any _ (ht.later S0.bel)
 clear a0 n0 a1 n1 a2 n2
 unfold bxN at hk S0
 unfold ND.v
 go_enter Tryz.func10, Tryz.ntmps10
 go_wp2_with fail
 with_reducible refine hk.mono ?_
 rintro e W1 ⟨rfl, hb1⟩
 have S1 := S0.nx hb1
 clear hk hb1 S0
 have hcl := looks_any ta hIa da W1 (ht.later S1.bel) (tr_later hTa S1.bel)
 obtain ⟨c0, c1, c2, c3, c4⟩ := cells_bx S1.ba
 unfold ND.v at hcl
 go_wp2_with fail
 with_reducible refine hcl.mono ?_
 rintro e W2 ⟨⟨ba, rfl, hbt⟩, hb⟩
 have S2 := S1.nx hb
 clear hcl c0 c1 c2 c3 c4 S1 hb
 have HBa := hide hbt
 clear hbt
 cases ba with
 | false =>
   go_wp2
   go_ret
   exact ⟨rfl, S2.bel⟩
 | true =>
 have LOa := hide (HBa.out.1 rfl)
 clear HBa
 have hcl := looks_any tb hIb db W2 (ht.later S2.bel) (tr_later hTb S2.bel)
 obtain ⟨c0, c1, c2, c3, c4⟩ := cells_bx S2.bb
 unfold ND.v at hcl
 go_wp2_with fail
 with_reducible refine hcl.mono ?_
 rintro e W3 ⟨⟨bb, rfl, hbt⟩, hb⟩
 have S3 := S2.nx hb
 clear hcl c0 c1 c2 c3 c4 S2 hb
 have HBb := hide hbt
 clear hbt
 cases bb with
 | false =>
   go_wp2
   go_ret
   exact ⟨rfl, S3.bel⟩
 | true =>
 have LOb := hide (HBb.out.1 rfl)
 clear HBb
 have hcl := looks_any tc hIc dc W3 (ht.later S3.bel) (tr_later hTc S3.bel)
 obtain ⟨c0, c1, c2, c3, c4⟩ := cells_bx S3.bc
 unfold ND.v at hcl
 go_wp2_with fail
 with_reducible refine hcl.mono ?_
 rintro e W4 ⟨⟨bc, rfl, hbt⟩, hb⟩
 have S4 := S3.nx hb
 clear hcl c0 c1 c2 c3 c4 S3 hb
 have HBc := hide hbt
 clear hbt
 cases bc with
 | false =>
   go_wp2
   go_ret
   exact ⟨rfl, S4.bel⟩
 | true =>
 have LOc := hide (HBc.out.1 rfl)
 clear HBc
 by_cases hn : xs.length ≤ 12
 case neg =>
   have hn' : (12 : Int) < (xs.length : Int) := by omega
   go_wp2
   go_ret
   exact ⟨rfl, S4.bel⟩
 have hn' : ¬ (12 : Int) < (xs.length : Int) := by omega
 have hcl := count_any ta hIa da W4 60 (by omega) (tr_later hTa S4.bel)
 obtain ⟨c0, c1, c2, c3, c4⟩ := cells_bx S4.ba
 unfold ND.v at hcl
 obtain ⟨ra, hra⟩ : ∃ r : Nat, min (sz ta) (60 + 1) = r := ⟨_, rfl⟩
 rw [hra, show ((60 : Nat) : Int) = 60 from rfl] at hcl
 have HRa := hide hra
 have hrba : ra ≤ 61 := by omega
 clear hra
 go_wp2_with fail
 with_reducible refine hcl.mono ?_
 rintro e W5 ⟨rfl, hb⟩
 have S5 := S4.nx hb
 clear hcl c0 c1 c2 c3 c4 S4 hb
 by_cases hqa : ra ≤ 60
 case neg =>
   have hq' : (60 : Int) < (ra : Int) := by omega
   go_wp2
   go_ret
   exact ⟨rfl, S5.bel⟩
 have hsa : (E.pre ta ta).length ≤ 60 := by have := HRa.out; unfold sz at this; omega
 have hqa' : ¬ (60 : Int) < (ra : Int) := by omega
 have hcl := count_any tb hIb db W5 60 (by omega) (tr_later hTb S5.bel)
 obtain ⟨c0, c1, c2, c3, c4⟩ := cells_bx S5.bb
 unfold ND.v at hcl
 obtain ⟨rb, hrb⟩ : ∃ r : Nat, min (sz tb) (60 + 1) = r := ⟨_, rfl⟩
 rw [hrb, show ((60 : Nat) : Int) = 60 from rfl] at hcl
 have HRb := hide hrb
 have hrbb : rb ≤ 61 := by omega
 clear hrb
 go_wp2_with fail
 with_reducible refine hcl.mono ?_
 rintro e W6 ⟨rfl, hb⟩
 have S6 := S5.nx hb
 clear hcl c0 c1 c2 c3 c4 S5 hb
 by_cases hqb : rb ≤ 60
 case neg =>
   have hq' : (60 : Int) < (rb : Int) := by omega
   go_wp2
   go_ret
   exact ⟨rfl, S6.bel⟩
 have hsb : (E.pre tb tb).length ≤ 60 := by have := HRb.out; unfold sz at this; omega
 have hqb' : ¬ (60 : Int) < (rb : Int) := by omega
 have hcl := count_any tc hIc dc W6 60 (by omega) (tr_later hTc S6.bel)
 obtain ⟨c0, c1, c2, c3, c4⟩ := cells_bx S6.bc
 unfold ND.v at hcl
 obtain ⟨rc, hrc⟩ : ∃ r : Nat, min (sz tc) (60 + 1) = r := ⟨_, rfl⟩
 rw [hrc, show ((60 : Nat) : Int) = 60 from rfl] at hcl
 have HRc := hide hrc
 have hrbc : rc ≤ 61 := by omega
 clear hrc
 go_wp2_with fail
 with_reducible refine hcl.mono ?_
 rintro e W7 ⟨rfl, hb⟩
 have S7 := S6.nx hb
 clear hcl c0 c1 c2 c3 c4 S6 hb
 by_cases hqc : rc ≤ 60
 case neg =>
   have hq' : (60 : Int) < (rc : Int) := by omega
   go_wp2
   go_ret
   exact ⟨rfl, S7.bel⟩
 have hsc : (E.pre tc tc).length ≤ 60 := by have := HRc.out; unfold sz at this; omega
 have hqc' : ¬ (60 : Int) < (rc : Int) := by omega
 obtain ⟨c0, c1, c2, c3, c4⟩ := cells_bx S7.ba
 have hw6 : w.heap.size < W7.heap.size := (Array.getElem?_eq_some_iff.1 S7.ba).1
 have e1 : w.heap.size < W7.heap.size + 1 := by omega
 have a0 := al1 W7 (.cells #[.int .i64 3, .int .i64 0, .slice none 0 0, .string ⟨#[]⟩, .slice none 0 0] 26)
 have n0 := heap_alloc_new W7 (.cells #[.int .i64 3, .int .i64 0, .slice none 0 0, .string ⟨#[]⟩, .slice none 0 0] 26)
 have S8 := S7.nx a0
 have hcl := one_ok (fun _ => True) 6 da ta _ (tr_later hTa S8.bel) (fun _ _ => trivial)
 unfold ND.v at hcl
 go_wp2_with fail
 with_reducible refine hcl.mono ?_
 rintro e W9 ⟨⟨ds, rfl, hTs⟩, hb9⟩
 have S9 := S8.nx hb9
 have nN := bx_later n0 hb9
 have hNl : W7.heap.size < W9.heap.size := (Array.getElem?_eq_some_iff.1 nN).1
 have aS := al1 W9 (bxN ds)
 have nS := heap_alloc_new W9 (bxN ds)
 unfold bxN at aS nS
 clear hcl c0 c1 c2 c3 c4 S7 S8 a0 n0 hb9 hw6 e1
 have hPa := LOa.out.2
 have hPb := LOb.out.2
 have hPc := LOc.out.2
 have TT := hide (tt_ok hPa hPb hPc hsa hsb hsc hIa hIb hIc)
 have TE := hide (tt_same (xs := xs) TT.out)
 have s1 := len_t1 6 ta
 have s0 := len_t0
 have PN := hide (plain_t2 (k := 4) (.inl rfl) plain_t0 hPa (by omega))
 have P7 := hide (plain_t1 (k := 7) (.inr (.inl rfl)) hPa (by omega))
 have PS := hide (plain_t2 (k := 4) (.inl rfl) hPa (plain_t1 (k := 6) (.inl rfl) hPa (by omega)) (by omega))
 have NE := hide (none_cat (xs := xs) PN.out hPa)
 have PE := hide (plus_cat (xs := xs) PS.out P7.out)
 have lN : (E.pre (t2 4 t0 ta) (t2 4 t0 ta)).length ≤ 1000000 := by rw [len_t2]; omega
 have l7 : (E.pre (t1 7 ta) (t1 7 ta)).length ≤ 1000000 := by rw [len_t1]; omega
 have lS : (E.pre (t2 4 ta (t1 6 ta)) (t2 4 ta (t1 6 ta))).length ≤ 1000000 := by rw [len_t2]; omega
 have HL := hide (And.intro lN (And.intro l7 lS))
 clear hPa hPb hPc LOa LOb LOc s1 s0 lN l7 lS PN P7 PS
 have HC0 : Cur w da db dc ds W7.heap.size W9.heap.size (W9.alloc (.cells #[.int .i64 ds.k, .int .i64 ds.a, .slice ds.sp ds.sl ds.sc, .string ds.n, .slice ds.kp ds.kl ds.kc] 26)) := ⟨S9.nx aS, bx_later nN aS, nS⟩
 have HS0 : TR (W9.alloc (.cells #[.int .i64 ds.k, .int .i64 ds.a, .slice ds.sp ds.sl ds.sc, .string ds.n, .slice ds.kp ds.kl ds.kc] 26)) (fun _ => True) (t1 6 ta) ds.v := tr_later hTs aS
 go_wp2_with fail
 obtain ⟨V, hV⟩ : ∃ V, W9.alloc (.cells #[.int .i64 ds.k, .int .i64 ds.a, .slice ds.sp ds.sl ds.sc, .string ds.n, .slice ds.kp ds.kl ds.kc] 26) = V := ⟨_, rfl⟩
 rw [hV] at HC0 HS0 ⊢
 clear hV aS nS S9 nN hTs hNl
 generalize W7.heap.size = N at *
 generalize W9.heap.size = R at *
 rename_i Kc hKc
 have g0 := (Array.getElem?_eq_some_iff.1 HC0.s.bc).1
 have gN := (Array.getElem?_eq_some_iff.1 HC0.n).1
 have gR := (Array.getElem?_eq_some_iff.1 HC0.r).1
 have hB0 := HC0.s.bel
 refine reg7A (ta := ta) (tb := tb) (tc := tc) (da := da) (db := db) (dc := dc) (ds := ds) (w := w) (N := N) (R := R) (B := V.heap.size) (v3 := .slice ao xs.length cap) ⟨fun _ _ _ _ _ h => h, g0, gN, gR, ?_⟩ V ⟨HC0, ⟨tr_later hTa hB0, tr_later hTb hB0, tr_later hTc hB0, HS0, fun p hp => (by cases hp), fun _ _ => trivial⟩, Nat.le_refl _⟩ rfl (by kernel_rfl)
 clear HC0 HS0 g0 gN gR hB0
 intro us b11 l W hC hH hl h11
 refine hKc _ _ ?_
 clear hKc
 unfold fr8 ND.v
 have HH := hide hH
 have H11 := hide h11
 have HC := hide hC
 have HLL := hide hl
 clear hH h11 hC hl
 go_wp2
 go_loopw [12] (fun u wr => ∃ i : Nat, u = .int .i64 (i : Int) ∧ i ≤ 6 ∧ Below W.heap.size W wr) (fun u _ => 6 - (intOf u).toNat)
 case atStart => exact ⟨0, rfl, Nat.zero_le _, Below.refl _ _⟩
 case round =>
   obtain ⟨i, rfl, hi, hB⟩ := hrel
   have C1 := HC.out.nx hB
   have H1 := HH.out.nx hB
   have R1 := bx_later H11.out hB
   by_cases hlt : i < 6
   · have hl := HLL.out
     have ht12 : (ttL ta tb tc).length = 12 := rfl
     have k0 : 2 * i < l.length := by omega
     have k1 : 2 * i + 1 < l.length := by omega
     have t0l : 2 * i < (ttL ta tb tc).length := by omega
     have t1l : 2 * i + 1 < (ttL ta tb tc).length := by omega
     have c0 := row_cell R1 (2 * i) k0
     have c1 := row_cell R1 (2 * i + 1) k1
     have u0 : TR wr (fun _ => True) (ttL ta tb tc)[2 * i] l[2 * i].v := H1.m ((ttL ta tb tc)[2 * i], l[2 * i]) (by rw [List.mem_iff_getElem]; exact ⟨2 * i, by rw [List.length_zip]; omega, by rw [List.getElem_zip]⟩)
     have u1 : TR wr (fun _ => True) (ttL ta tb tc)[2 * i + 1] l[2 * i + 1].v := H1.m ((ttL ta tb tc)[2 * i + 1], l[2 * i + 1]) (by rw [List.mem_iff_getElem]; exact ⟨2 * i + 1, by rw [List.length_zip]; omega, by rw [List.getElem_zip]⟩)
     have p0 := TT.out _ (List.getElem_mem t0l)
     have p1 := TT.out _ (List.getElem_mem t1l)
     have HE := hide (TE.out i hlt t0l t1l)
     generalize hd0 : l[2 * i] = e0 at *
     generalize hd1 : l[2 * i + 1] = e1 at *
     generalize (ttL ta tb tc)[2 * i] = q0 at *
     generalize (ttL ta tb tc)[2 * i + 1] = q1 at *
     rw [show 2 * i * 5 = i * 10 by omega] at c0
     rw [show (2 * i + 1) * 5 = i * 10 + 5 by omega] at c1
     clear hd0 hd1 ht12 k0 k1 t0l t1l hl
     have hbl : b11 < wr.heap.size := (Array.getElem?_eq_some_iff.1 R1).1
     have CC := hide (fun (wx : World) (hb : Below wr.heap.size wr.drew wx) => c0.later (hb.block b11 hbl))
     have CD := hide (fun (wx : World) (hb : Below wr.heap.size wr.drew wx) => c1.later (hb.block b11 hbl))
     clear c0 c1
     have X1 := C1.nx (Below.refl _ wr).drew
     have h37 := allM_any q0 e0 wr.drew (ht.later X1.s.bel) (tr_later u0 (Below.refl _ wr).drew) p0.2.2 p0.2.1 ao cap xs (hx.later X1.s.bel) (by omega)
     go_wp2_with fail
     refine U.Reg.start (B := wr.heap.size) (by kernel_rfl) ?_
     refine tk 0 102 (.int .i64 (i : Int)) rfl (fun _ _ => by kernel_rfl) ?_
     refine tk 1 103 (.pointer (some ⟨b11, 0 + i * 10, none⟩)) rfl (fun _ _ => ixA (n := 6) (s := 10) rfl (by kernel_rfl) (by kernel_rfl) hlt (by kernel_rfl) (by kernel_rfl) (by kernel_rfl)) ?_
     refine tk 2 104 (.pointer (some ⟨b11, 0 + i * 10 + 0 * 5, none⟩)) rfl (fun _ _ => ixA (n := 2) (s := 5) (k := 0) rfl (by kernel_rfl) (by kernel_rfl) (by decide) (by kernel_rfl) (by kernel_rfl) (by kernel_rfl)) ?_
     refine tk 3 105 (e0.v) rfl (fun wx hb => ldA (b := b11) (off := 0 + i * 10 + 0 * 5) rfl (by kernel_rfl) (by rw [Nat.zero_mul, Nat.add_zero, Nat.zero_add]; exact CC.out wx hb)) ?_
     refine tk 4 106 (.slice ao xs.length cap) rfl (fun _ _ => by kernel_rfl) ?_
     refine tk 6 108 (.int .i64 (i : Int)) rfl (fun _ _ => by kernel_rfl) ?_
     refine tk 7 109 (.pointer (some ⟨b11, 0 + i * 10, none⟩)) rfl (fun _ _ => ixA (n := 6) (s := 10) rfl (by kernel_rfl) (by kernel_rfl) hlt (by kernel_rfl) (by kernel_rfl) (by kernel_rfl)) ?_
     refine tk 8 110 (.pointer (some ⟨b11, 0 + i * 10 + 1 * 5, none⟩)) rfl (fun _ _ => ixA (n := 2) (s := 5) (k := 1) rfl (by kernel_rfl) (by kernel_rfl) (by decide) (by kernel_rfl) (by kernel_rfl) (by kernel_rfl)) ?_
     refine tk 9 111 (e1.v) rfl (fun wx hb => ldA (b := b11) (off := 0 + i * 10 + 1 * 5) rfl (by kernel_rfl) (by rw [Nat.one_mul, Nat.zero_add]; exact CD.out wx hb)) ?_
     refine tk 10 112 (.slice ao xs.length cap) rfl (fun _ _ => by kernel_rfl) ?_
     refine cl 5 107 37 #[e0.v, .slice ao xs.length cap] rfl rfl (h37) ?_
     rintro e Y1 ⟨⟨b0, rfl, hb0⟩, hY1⟩
     refine ⟨_, rfl, hY1, ?_⟩
     have X2 := X1.nx hY1
     have h38 := allM_any q1 e1 Y1 (ht.later X2.s.bel) (tr_later (tr_later u1 (Below.refl _ wr).drew) hY1) p1.2.2 p1.2.1 ao cap xs (hx.later X2.s.bel) (by omega)
     refine cl 11 113 37 #[e1.v, .slice ao xs.length cap] rfl rfl (h38) ?_
     rintro e Y2 ⟨⟨b2, rfl, hb2⟩, hY2⟩
     refine ⟨_, rfl, hY2.mono (show wr.heap.size ≤ Y1.heap.size from hY1.size), ?_⟩
     obtain rfl : b2 = b0 := by rw [Bool.eq_iff_iff, hb2, hb0]; exact HE.out.symm
     refine on 12 114 (.bool false) rfl ?_ (by first | exact neBB (b := b0) rfl (by kernel_rfl) (by kernel_rfl) | exact neBB (b := b2) rfl (by kernel_rfl) (by kernel_rfl))
     refine U.Reg.done (by kernel_rfl) ?_
     simp only [U.Reg.ov, Act.put, List.setIfInBounds_toArray, List.set_cons_succ, List.set_cons_zero]
     have BZ : Below W.heap.size W Y2 := nx hB (((Below.refl _ wr).drew.trans hY1).trans (hY2.mono (show wr.heap.size ≤ Y1.heap.size from hY1.size)))
     clear h37 h38 hb0 hb2 HE CC CD u0 u1 p0 p1 C1 H1 R1 X1 X2 hbl
     go_wp2
     exact ⟨⟨i + 1, by go_num, by omega, BZ⟩, by simp [intOf]; omega⟩
   · obtain rfl : i = 6 := by omega
     have X1 := C1.nx (Below.refl _ wr).drew
     have G1 := H1.nx (Below.refl _ wr).drew
     have hla := (Array.getElem?_eq_some_iff.1 C1.s.ba).1
     have hln := (Array.getElem?_eq_some_iff.1 C1.n).1
     have hlr := (Array.getElem?_eq_some_iff.1 C1.r).1
     have la := fun (wx : World) (hb : Below wr.heap.size wr.drew wx) => (hb.block _ hla).trans C1.s.ba
     have ln := fun (wx : World) (hb : Below wr.heap.size wr.drew wx) => (hb.block _ hln).trans C1.n
     have lr := fun (wx : World) (hb : Below wr.heap.size wr.drew wx) => (hb.block _ hlr).trans C1.r
     clear hB R1
     go_wp2_with fail
     refine U.Reg.start (B := wr.heap.size) (by kernel_rfl) ?_
     refine tk 0 115 (d0.v) rfl (fun wx hb => ld_bx (d := d0) rfl (by kernel_rfl) (ln wx hb)) ?_
     refine tk 1 116 (da.v) rfl (fun wx hb => ld_bx rfl (by kernel_rfl) (la wx hb)) ?_
     refine tk 3 118 (.slice ao xs.length cap) rfl (fun _ _ => by kernel_rfl) ?_
     refine tk 5 120 (da.v) rfl (fun wx hb => ld_bx rfl (by kernel_rfl) (la wx hb)) ?_
     refine tk 6 121 (.slice ao xs.length cap) rfl (fun _ _ => by kernel_rfl) ?_
     refine cl 2 117 44 #[.int .i64 4, d0.v, da.v] rfl rfl (two_ok (fun _ => True) 4 d0 da t0 ta wr.drew (tr_d0 _ _) G1.a (fun _ _ => trivial)) ?_
     rintro e Z1 ⟨⟨f1, rfl, htf1⟩, hZ1⟩
     have BZ1 : Below wr.heap.size wr.drew Z1 := hZ1.mono (Nat.le_refl _)
     refine ⟨_, rfl, BZ1, ?_⟩
     have TZ1 : Below wr.heap.size wr.drew Z1 := BZ1
     have CZ1 := X1.nx TZ1
     have hb4 := allM_any (t2 4 t0 ta) f1 Z1 (ht.later CZ1.s.bel) htf1 HL.out.1 (inT_t2 inT_t0 hIa) ao cap xs (hx.later CZ1.s.bel) (by omega)
     refine cl 4 119 37 #[f1.v, .slice ao xs.length cap] rfl rfl (hb4) ?_
     rintro e Z2 ⟨⟨b4, rfl, kb4⟩, hZ2⟩
     have BZ2 : Below wr.heap.size Z1 Z2 := hZ2.mono TZ1.size
     refine ⟨_, rfl, BZ2, ?_⟩
     have TZ2 : Below wr.heap.size wr.drew Z2 := TZ1.trans BZ2
     have CZ2 := X1.nx TZ2
     have hb7 := allM_any ta da Z2 (ht.later CZ2.s.bel) (tr_later G1.a TZ2) (by omega) hIa ao cap xs (hx.later CZ2.s.bel) (by omega)
     refine cl 7 122 37 #[da.v, .slice ao xs.length cap] rfl rfl (hb7) ?_
     rintro e Z3 ⟨⟨b7, rfl, kb7⟩, hZ3⟩
     have BZ3 : Below wr.heap.size Z2 Z3 := hZ3.mono TZ2.size
     refine ⟨_, rfl, BZ3, ?_⟩
     have TZ3 : Below wr.heap.size wr.drew Z3 := TZ2.trans BZ3
     have CZ3 := X1.nx TZ3
     obtain rfl : b4 = b7 := by rw [Bool.eq_iff_iff, kb4, kb7]; exact NE.out
     refine on 8 123 (.bool true) rfl ?_ (by first | exact eqBB (b := b4) rfl (by kernel_rfl) (by kernel_rfl) | exact eqBB (b := b7) rfl (by kernel_rfl) (by kernel_rfl))
     refine on 9 124 (.bool true) rfl ?_
     have la3 := fun (wx : World) (hb : Below wr.heap.size Z3 wx) => la wx (TZ3.trans hb)
     have lr3 := fun (wx : World) (hb : Below wr.heap.size Z3 wx) => lr wx (TZ3.trans hb)
     refine tk 10 125 (da.v) rfl (fun wx hb => ld_bx rfl (by kernel_rfl) (la3 wx hb)) ?_
     refine tk 12 127 (.slice ao xs.length cap) rfl (fun _ _ => by kernel_rfl) ?_
     refine tk 14 129 (da.v) rfl (fun wx hb => ld_bx rfl (by kernel_rfl) (la3 wx hb)) ?_
     refine tk 15 130 (ds.v) rfl (fun wx hb => ld_bx rfl (by kernel_rfl) (lr3 wx hb)) ?_
     refine tk 17 132 (.slice ao xs.length cap) rfl (fun _ _ => by kernel_rfl) ?_
     refine cl 11 126 43 #[.int .i64 7, da.v] rfl rfl (one_ok (fun _ => True) 7 da ta Z3 (tr_later G1.a TZ3) (fun _ _ => trivial)) ?_
     rintro e Z4 ⟨⟨f2, rfl, htf2⟩, hZ4⟩
     have BZ4 : Below wr.heap.size Z3 Z4 := hZ4.mono TZ3.size
     refine ⟨_, rfl, BZ4, ?_⟩
     have TZ4 : Below wr.heap.size wr.drew Z4 := TZ3.trans BZ4
     have CZ4 := X1.nx TZ4
     have hb13 := allM_any (t1 7 ta) f2 Z4 (ht.later CZ4.s.bel) htf2 HL.out.2.1 (inT_t1 hIa) ao cap xs (hx.later CZ4.s.bel) (by omega)
     refine cl 13 128 37 #[f2.v, .slice ao xs.length cap] rfl rfl (hb13) ?_
     rintro e Z5 ⟨⟨b13, rfl, kb13⟩, hZ5⟩
     have BZ5 : Below wr.heap.size Z4 Z5 := hZ5.mono TZ4.size
     refine ⟨_, rfl, BZ5, ?_⟩
     have TZ5 : Below wr.heap.size wr.drew Z5 := TZ4.trans BZ5
     have CZ5 := X1.nx TZ5
     refine cl 16 131 44 #[.int .i64 4, da.v, ds.v] rfl rfl (two_ok (fun _ => True) 4 da ds ta (t1 6 ta) Z5 (tr_later G1.a TZ5) (tr_later G1.s TZ5) (fun _ _ => trivial)) ?_
     rintro e Z6 ⟨⟨f3, rfl, htf3⟩, hZ6⟩
     have BZ6 : Below wr.heap.size Z5 Z6 := hZ6.mono TZ5.size
     refine ⟨_, rfl, BZ6, ?_⟩
     have TZ6 : Below wr.heap.size wr.drew Z6 := TZ5.trans BZ6
     have CZ6 := X1.nx TZ6
     have hb18 := allM_any (t2 4 ta (t1 6 ta)) f3 Z6 (ht.later CZ6.s.bel) htf3 HL.out.2.2 (inT_t2 hIa (inT_t1 hIa)) ao cap xs (hx.later CZ6.s.bel) (by omega)
     refine cl 18 133 37 #[f3.v, .slice ao xs.length cap] rfl rfl (hb18) ?_
     rintro e Z7 ⟨⟨b18, rfl, kb18⟩, hZ7⟩
     have BZ7 : Below wr.heap.size Z6 Z7 := hZ7.mono TZ6.size
     refine ⟨_, rfl, BZ7, ?_⟩
     have TZ7 : Below wr.heap.size wr.drew Z7 := TZ6.trans BZ7
     have CZ7 := X1.nx TZ7
     obtain rfl : b13 = b18 := by rw [Bool.eq_iff_iff, kb13, kb18]; exact PE.out
     refine on 19 134 (.bool true) rfl ?_ (by first | exact eqBB (b := b13) rfl (by kernel_rfl) (by kernel_rfl) | exact eqBB (b := b18) rfl (by kernel_rfl) (by kernel_rfl))
     refine on 20 135 (.bool true) rfl ?_
     refine on 21 8 (.bool true) rfl ?_
     refine U.Reg.done (by kernel_rfl) ?_
     simp only [U.Reg.ov, Act.put, List.setIfInBounds_toArray, List.set_cons_succ, List.set_cons_zero]
     have BE := CZ7.s.bel
     clear la ln lr la3 lr3
     go_wp2
     go_ret
     exact ⟨rfl, BE⟩
end Go.Proofs.YteaaijhppmkfeaaGreatDoor
