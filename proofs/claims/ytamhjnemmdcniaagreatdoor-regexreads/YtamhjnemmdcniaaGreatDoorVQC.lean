/- Joined: Qrx Rrw. -/
import Derived.Test.YtamhjnemmdcniaaGreatDoorVKwn
import Derived.Test.YtamhjnemmdcniaaGreatDoorVURefa
import Derived.Test.YtamhjnemmdcniaaGreatDoorVQB
import Derived.Test.YtamhjnemmdcniaaGreatDoorVBkp
import Derived.Test.YtamhjnemmdcniaaGreatDoorVRe
/- The reference's Exact: of two values that read as one tree it tells true. -/
namespace Go.Proofs.YtamhjnemmdcniaaGreatDoor
open Go.RowKit Go.Shelf
open E (T)
theorem ldK {w : World} {ρ : Operand → Value} {o : Oper} {x : Operand} {b off : Nat} {u0 u1 u2 u3 u4 : Value} (hop : o.op = .load 26 x) (hx : ρ x = .pointer (some ⟨b, off, none⟩)) (c0 : w.cell? ⟨b, off, none⟩ = some u0) (c1 : w.cell? ⟨b, off + 1, none⟩ = some u1) (c2 : w.cell? ⟨b, off + 2, none⟩ = some u2) (c3 : w.cell? ⟨b, off + 3, none⟩ = some u3) (c4 : w.cell? ⟨b, off + 4, none⟩ = some u4) : (execOp ρ o).run Tryz.prog w = .ok (.value (.agg #[u0, u1, u2, u3, u4])) w := by
 obtain ⟨dst, op, type, pos, after, guard⟩ := o
 simp only at hop
 subst hop
 have hsz := Tryz.sizeOf26 w
 have hag := Tryz.isAgg26 w
 simp [execOp, hx, Instr.loadAt, Instr.sureAddr, loadVar, Sem.run_bind, hsz, hag, Result.andThen, go_sem, c0, c1, c2, c3, c4]
def Few : T → Prop
 | .mk _ _ s _ ks => s.length ≤ 1000000 ∧ ks.length ≤ 1000000 ∧ ∀ t ∈ ks, Few t
theorem few_mem {k a : Int} {s : E.Rs} {n : List UInt8} {ks : List T} (h : Few (.mk k a s n ks)) : s.length ≤ 1000000 ∧ ks.length ≤ 1000000 ∧ ∀ t ∈ ks, Few t := by
 rw [Few] at h
 exact h
set_option maxRecDepth 100000 in
set_option maxHeartbeats 1000000 in
theorem exact_step (k a : Int) (s : E.Rs) (nm : List UInt8) (ks : List T) (hF : Few (.mk k a s nm ks))
   (ih : ∀ t ∈ ks, ∀ (d e : ND) (w : World), TR w (fun _ => True) t d.v → TR w (fun _ => True) t e.v → Calls Tryz.prog 12 #[d.v, e.v] w fun r w' => r = .returned (.bool true) ∧ Below w.heap.size w w')
   (d e : ND) (w : World) (hd : TR w (fun _ => True) (.mk k a s nm ks) d.v) (he : TR w (fun _ => True) (.mk k a s nm ks) e.v) : Calls Tryz.prog 12 #[d.v, e.v] w fun r w' => r = .returned (.bool true) ∧ Below w.heap.size w w' := by
 obtain ⟨f1, f2, _⟩ := few_mem hF
 clear hF
 rw [TR] at hd he
 obtain ⟨sp, sc, kp, kc, e1, hr1, hk1, hkr1⟩ := hd
 obtain ⟨sp', sc', kp', kc', e2, hr2, hk2, hkr2⟩ := he
 rw [e1, e2]
 clear e1 e2
 have a1 := al1 w (.cells #[.int .i64 k, .int .i64 a, .slice sp s.length sc, .string ⟨nm.toArray⟩, .slice kp ks.length kc] 26)
 have n1 := heap_alloc_new w (.cells #[.int .i64 k, .int .i64 a, .slice sp s.length sc, .string ⟨nm.toArray⟩, .slice kp ks.length kc] 26)
 obtain ⟨X1, hX1⟩ : ∃ X1, w.alloc (.cells #[.int .i64 k, .int .i64 a, .slice sp s.length sc, .string ⟨nm.toArray⟩, .slice kp ks.length kc] 26) = X1 := ⟨_, rfl⟩
 rw [hX1] at a1 n1
 have a2 := al1 X1 (.cells #[.int .i64 k, .int .i64 a, .slice sp' s.length sc', .string ⟨nm.toArray⟩, .slice kp' ks.length kc'] 26)
 have n2 := heap_alloc_new X1 (.cells #[.int .i64 k, .int .i64 a, .slice sp' s.length sc', .string ⟨nm.toArray⟩, .slice kp' ks.length kc'] 26)
 have n1' := (a2.block w.heap.size (Array.getElem?_eq_some_iff.1 n1).1).trans n1
 obtain ⟨X2, hX2⟩ : ∃ X2, X1.alloc (.cells #[.int .i64 k, .int .i64 a, .slice sp' s.length sc', .string ⟨nm.toArray⟩, .slice kp' ks.length kc'] 26) = X2 := ⟨_, rfl⟩
 rw [hX2] at a2 n2 n1'
 have bW := nx a1 a2
 obtain ⟨c0, c1, c2, c3, c4⟩ := cells_five n1'
 obtain ⟨q0, q1, q2, q3, q4⟩ := cells_five n2
 have hsm := U.refSame_any sp sp' sc sc' s s f1 X2 (hr1.later bW) (hr2.later bW)
 have N1 := hide n1'
 have N2 := hide n2
 clear a1 a2 n1 n2 n1' hr1 hr2
 go_enter Tryz.func12, Tryz.ntmps12
 go_wp2_with fail
 refine hsm.mono ?_
 rintro r X3 ⟨⟨b, rfl, hb⟩, hb3⟩
 obtain rfl : b = true := hb.2 (by first | rfl | trivial)
 have bW3 := nx bW hb3
 have m1 := (hb3.block w.heap.size (Array.getElem?_eq_some_iff.1 N1.out).1).trans N1.out
 have m2 := (hb3.block X1.heap.size (Array.getElem?_eq_some_iff.1 N2.out).1).trans N2.out
 obtain ⟨c0', c1', c2', c3', c4'⟩ := cells_five m1
 obtain ⟨q0', q1', q2', q3', q4'⟩ := cells_five m2
 clear hsm hb hb3 bW N1 N2 hX1 hX2 c0 c1 c2 c3 c4 q0 q1 q2 q3 q4
 have M1 := hide m1
 have M2 := hide m2
 clear m1 m2
 go_wp2
 go_loopw [5] (fun u wr => ∃ i : Nat, u = .int .i64 (i : Int) ∧ i ≤ ks.length ∧ wr.heap[w.heap.size]? = some (.cells #[.int .i64 k, .int .i64 a, .slice sp s.length sc, .string ⟨nm.toArray⟩, .slice kp ks.length kc] 26) ∧ wr.heap[X1.heap.size]? = some (.cells #[.int .i64 k, .int .i64 a, .slice sp' s.length sc', .string ⟨nm.toArray⟩, .slice kp' ks.length kc'] 26) ∧ Below w.heap.size w wr) (fun u _ => ks.length - (intOf u).toNat)
 case atStart => exact ⟨0, rfl, Nat.zero_le _, M1.out, M2.out, bW3⟩
 case round =>
   obtain ⟨i, rfl, hi, m1, m2, hB⟩ := hrel
   clear c0' c1' c2' c3' c4' q0' q1' q2' q3' q4' M1 M2 bW3
   obtain ⟨c0, c1, c2, c3, c4⟩ := cells_five m1
   obtain ⟨q0, q1, q2, q3, q4⟩ := cells_five m2
   by_cases hlt : i < ks.length
   · obtain ⟨b, off, v, hkp, ht1, hc1⟩ := KR.get _ 0 hkr1 i hlt
     obtain ⟨b', off', v', hkp', ht2, hc2⟩ := KR.get _ 0 hkr2 i hlt
     obtain ⟨d1, rfl⟩ := ht1.ndD
     obtain ⟨d2, rfl⟩ := ht2.ndD
     subst hkp hkp'
     rw [Nat.zero_add] at hc1 hc2
     have hl1 := cells5_lt hc1
     have hl2 := cells5_lt hc2
     have hcl := ih ks[i] (List.getElem_mem hlt) d1 d2 wr.drew (TR.later (W := wr.drew) (fun k hk => hB.block k hk) _ ht1) (TR.later (W := wr.drew) (fun k hk => hB.block k hk) _ ht2)
     have hwl : w.heap.size < wr.heap.size := (Array.getElem?_eq_some_iff.1 m1).1
     have hXl : X1.heap.size < wr.heap.size := (Array.getElem?_eq_some_iff.1 m2).1
     unfold ND.v at hcl
     clear ht1 ht2
     go_wp2_with fail
     refine Reg.start (B := wr.heap.size) (by kernel_rfl) ?_
     refine Reg.take (fun _ _ _ _ _ h => h) 0 _ 49 (.pointer (some ⟨w.heap.size, 4, none⟩)) rfl (by kernel_rfl) (by kernel_rfl) (by kernel_rfl) rfl (by kernel_rfl) (by kernel_rfl) (fun wx hb => by kernel_rfl) ?_
     refine Reg.take (fun _ _ _ _ _ h => h) 1 _ 50 (.slice (some ⟨b, off, none⟩) ks.length kc) rfl (by kernel_rfl) (by kernel_rfl) (by kernel_rfl) rfl (by kernel_rfl) (by kernel_rfl) (fun wx hb => Reg.ldS rfl (by kernel_rfl) ((hb.cell (p := ⟨w.heap.size, 4, none⟩) hwl).trans c4) (Tryz.isAgg24 _)) ?_
     refine Reg.take (fun _ _ _ _ _ h => h) 2 _ 51 (.int .i64 (i : Int)) rfl (by kernel_rfl) (by kernel_rfl) (by kernel_rfl) rfl (by kernel_rfl) (by kernel_rfl) (fun wx hb => by kernel_rfl) ?_
     refine Reg.take (fun _ _ _ _ _ h => h) 3 _ 52 (.pointer (some ⟨b, off + i * 5, none⟩)) rfl (by kernel_rfl) (by kernel_rfl) (by kernel_rfl) rfl (by kernel_rfl) (by kernel_rfl) (fun wx hb => U.Reg.ix (q := .i64) (cap := kc) rfl (by kernel_rfl) (by kernel_rfl) hlt Tryz.underlying24 (elemSize24w wx)) ?_
     refine Reg.take (fun _ _ _ _ _ h => h) 4 _ 53 (.agg #[.int .i64 d1.k, .int .i64 d1.a, .slice d1.sp d1.sl d1.sc, .string d1.n, .slice d1.kp d1.kl d1.kc]) rfl (by kernel_rfl) (by kernel_rfl) (by kernel_rfl) rfl (by kernel_rfl) (by kernel_rfl) (fun wx hb => by
       obtain ⟨z0, z1, z2, z3, z4⟩ := cells5_atW hc1 (hB.drew.trans (Below.mono hb (Nat.le_of_lt hwl))) hl1
       exact ldK rfl (by kernel_rfl) z0 z1 z2 z3 z4) ?_
     refine Reg.take (fun _ _ _ _ _ h => h) 5 _ 54 (.pointer (some ⟨X1.heap.size, 4, none⟩)) rfl (by kernel_rfl) (by kernel_rfl) (by kernel_rfl) rfl (by kernel_rfl) (by kernel_rfl) (fun wx hb => by kernel_rfl) ?_
     refine Reg.take (fun _ _ _ _ _ h => h) 6 _ 55 (.slice (some ⟨b', off', none⟩) ks.length kc') rfl (by kernel_rfl) (by kernel_rfl) (by kernel_rfl) rfl (by kernel_rfl) (by kernel_rfl) (fun wx hb => Reg.ldS rfl (by kernel_rfl) ((hb.cell (p := ⟨X1.heap.size, 4, none⟩) hXl).trans q4) (Tryz.isAgg24 _)) ?_
     refine Reg.take (fun _ _ _ _ _ h => h) 7 _ 56 (.int .i64 (i : Int)) rfl (by kernel_rfl) (by kernel_rfl) (by kernel_rfl) rfl (by kernel_rfl) (by kernel_rfl) (fun wx hb => by kernel_rfl) ?_
     refine Reg.take (fun _ _ _ _ _ h => h) 8 _ 57 (.pointer (some ⟨b', off' + i * 5, none⟩)) rfl (by kernel_rfl) (by kernel_rfl) (by kernel_rfl) rfl (by kernel_rfl) (by kernel_rfl) (fun wx hb => U.Reg.ix (q := .i64) (cap := kc') rfl (by kernel_rfl) (by kernel_rfl) hlt Tryz.underlying24 (elemSize24w wx)) ?_
     refine Reg.take (fun _ _ _ _ _ h => h) 9 _ 58 (.agg #[.int .i64 d2.k, .int .i64 d2.a, .slice d2.sp d2.sl d2.sc, .string d2.n, .slice d2.kp d2.kl d2.kc]) rfl (by kernel_rfl) (by kernel_rfl) (by kernel_rfl) rfl (by kernel_rfl) (by kernel_rfl) (fun wx hb => by
       obtain ⟨z0, z1, z2, z3, z4⟩ := cells5_atW hc2 (hB.drew.trans (Below.mono hb (Nat.le_of_lt hwl))) hl2
       exact ldK rfl (by kernel_rfl) z0 z1 z2 z3 z4) ?_
     refine Reg.call 10 _ 59 12 _ _ #[.agg #[.int .i64 d1.k, .int .i64 d1.a, .slice d1.sp d1.sl d1.sc, .string d1.n, .slice d1.kp d1.kl d1.kc], .agg #[.int .i64 d2.k, .int .i64 d2.a, .slice d2.sp d2.sl d2.sc, .string d2.n, .slice d2.kp d2.kl d2.kc]] rfl (by kernel_rfl) rfl (by kernel_rfl) (by kernel_rfl) rfl (by kernel_rfl) (by kernel_rfl) hcl ?_
     rintro r W4 ⟨rfl, hb4⟩
     refine ⟨_, wr.heap.size, rfl, Nat.le_refl _, hb4, ?_⟩
     refine Reg.only 11 _ 60 rfl (by kernel_rfl) rfl (by kernel_rfl) (by kernel_rfl) ⟨.bool false, W4, wr.heap.size, by kernel_rfl, Nat.le_refl _, Below.refl _ _, ?_⟩
     refine Reg.done (by kernel_rfl) ?_
     simp only [Reg.ov, Act.put, List.setIfInBounds_toArray, List.set_cons_succ, List.set_cons_zero]
     have hb4' : Below wr.heap.size wr W4 := (Below.refl _ wr).drew.trans hb4
     have M1 := hide ((hb4'.block w.heap.size hwl).trans m1)
     have M2 := hide ((hb4'.block X1.heap.size hXl).trans m2)
     have HB := hide (hB.trans (hb4'.mono (by omega)))
     clear m1 m2 hcl hb4 hb4' c0 c1 c2 c3 c4 q0 q1 q2 q3 q4
     go_wp2
     go_roundw
     case rel => exact ⟨i + 1, by go_num, by omega, M1.out, M2.out, HB.out⟩
     case measure => simp [intOf]; omega
   · obtain rfl : i = ks.length := by omega
     go_wp2
     go_ret
     exact ⟨rfl, hB⟩
theorem exact_n : ∀ (n : Nat) (t : T), SizeOf.sizeOf t < n → Few t → ∀ (d e : ND) (w : World), TR w (fun _ => True) t d.v → TR w (fun _ => True) t e.v → Calls Tryz.prog 12 #[d.v, e.v] w fun r w' => r = .returned (.bool true) ∧ Below w.heap.size w w'
 | 0, _, h, _ => absurd h (Nat.not_lt_zero _)
 | n + 1, .mk k a s nm ks, h, hF => fun d e w hd he => exact_step k a s nm ks hF (fun t ht => exact_n n t (by
     have := List.sizeOf_lt_of_mem ht
     simp at h
     omega) ((few_mem hF).2.2 t ht)) d e w hd he
theorem exactQ (t : T) (hF : Few t) (d e : ND) (w : World) (hd : TR w (fun _ => True) t d.v) (he : TR w (fun _ => True) t e.v) : Calls Tryz.prog 12 #[d.v, e.v] w fun r w' => r = .returned (.bool true) ∧ Below w.heap.size w w' :=
 exact_n (SizeOf.sizeOf t + 1) t (Nat.lt_succ_self _) hF d e w hd he
end Go.Proofs.YtamhjnemmdcniaaGreatDoor
/- What RegexReads says: the walk. -/
namespace Go.Proofs.YtamhjnemmdcniaaGreatDoor
open Go.RowKit Go.Shelf
open E (T)
attribute [local go_sem] Oper.semAt_some
theorem RdK.cellsQ {w : World} {b off : Nat} {xs : List E.Tok} (h : RdK w (some ⟨b, off, none⟩) xs) : ∀ j u, (cT xs)[j]? = some u → w.cell? ((⟨b, off, none⟩ : Addr).add j) = some u := by
 intro j u hu
 have hj : j < xs.length * 4 := by rw [← cT_length]; exact (List.getElem?_eq_some_iff.1 hu).1
 have hj2 : j / 4 < xs.length := by omega
 obtain ⟨b', off', e, h0, h1, h2, h3⟩ := h (j / 4) hj2
 cases e
 have ha := cT_at xs (j / 4) hj2 (j % 4) (by omega)
 rw [show j / 4 * 4 + j % 4 = j by omega, hu] at ha
 rw [adAdd]
 have hm : j % 4 = 0 ∨ j % 4 = 1 ∨ j % 4 = 2 ∨ j % 4 = 3 := by omega
 rcases hm with hm | hm | hm | hm
 · rw [hm] at ha
   rw [show off + j = off + j / 4 * 4 by omega, h0]
   exact ha.symm
 · rw [hm] at ha
   rw [show off + j = off + j / 4 * 4 + 1 by omega, h1]
   exact ha.symm
 · rw [hm] at ha
   rw [show off + j = off + j / 4 * 4 + 2 by omega, h2]
   exact ha.symm
 · rw [hm] at ha
   rw [show off + j = off + j / 4 * 4 + 3 by omega, h3]
   exact ha.symm
theorem cT_onesQ (l : List E.Tok) : ∀ u ∈ cT l, u.oneCell' = true := by
 intro u hu
 obtain ⟨x, _, hx⟩ := List.mem_flatMap.1 hu
 simp [cK] at hx
 rcases hx with rfl | rfl | rfl | rfl <;> rfl
theorem run_appKs (w : World) (ao : Option Addr) (ys : List E.Tok) (cap : Nat) (ty : TypeId) (hr : RdK w ao ys) (hn : ao = none → cap = 0) (hlen : ys.length ≤ 1000000) :
   ∃ v' w', (Builtin.append_ #[40, 40] ty #[.slice none 0 0, .slice ao ys.length cap]).run Tryz.prog w = .ok v' w' ∧ OwnK w' w.heap.size v' ys ∧ Below w.heap.size w w' := by
 obtain ⟨i0, hi, hz0, hz1, hz2⟩ := info_partsK info29
 have ho := ownK_nil w w.heap.size
 cases ao with
 | none =>
   have hx : ys = [] := by
     cases ys with
     | nil => rfl
     | cons x l =>
       obtain ⟨_, _, e, _⟩ := hr 0 (by simp)
       cases e
   subst hx
   rw [hn rfl]
   exact ⟨_, w, run_append_owned_none (P := Tryz.prog) (w := w) w.heap.size 40 ty 58 i0 4 Tryz.underlying40 hi (.slice none 0 0) 0 [] ho, ho, Below.refl _ _⟩
 | some ad =>
   obtain ⟨v', w', hrun, h1, h2, _⟩ := run_append_own (P := Tryz.prog) w w.heap.size 40 ty 58 i0 _ 4 40 Tryz.underlying40 hi hz0 hz1 hz2 rfl (by decide) (.slice none 0 0) 0 [] ho ad ys.length cap (cT ys) (cT_length ys)
     (fun j u hu => by
       have hj : j < ys.length * 4 := by rw [← cT_length]; exact (List.getElem?_eq_some_iff.1 hu).1
       obtain ⟨b, off, e, _⟩ := hr 0 (by omega)
       cases e
       exact hr.cellsQ j u hu) (cT_onesQ ys) (by unfold maxLen; omega) (by omega) (Nat.le_refl _)
   refine ⟨v', w', hrun, ?_, (Below.refl _ _).grown h2 (Nat.le_refl _) ho.block⟩
   unfold OwnK
   rw [Nat.zero_add, List.nil_append] at h1
   exact h1
theorem wpl_appKs {w : World} {ops : Array Oper} {rest : List Oper} {o : Oper} {a : Act} {Q : Exit → Act → World → Prop} (hgd : o.guard = none) (s x : Operand)
   (hop : o.op = .call { callee := .builtin .append, args := #[s, x], argTypes := #[40, 40] })
   (ao : Option Addr) (ys : List E.Tok) (n cap : Nat) (hxl : n = ys.length) (hs : a.eval s = .slice none 0 0) (hx : a.eval x = .slice ao n cap)
   (hr : RdK w ao ys) (hn : ao = none → cap = 0) (hlen : ys.length ≤ 1000000)
   (h : ∀ v' w', OwnK w' w.heap.size v' ys → Below w.heap.size w w' → wpList Tryz.prog ops Q rest (a.put o.dst v') w') : wpList Tryz.prog ops Q (o :: rest) a w := by
 subst hxl
 refine wpList_plain hgd fun K hK => ?_
 obtain ⟨v', w', hrun, h2, h3⟩ := run_appKs w ao ys cap o.type hr hn hlen
 unfold Oper.wp
 simp [execOp, hop, resolve, invoke, builtin, hs, hx, hrun, Result.andThen]
 exact hK _ _ (h v' w' h2 h3)
theorem alt_few {l : List E.Tok} (hg : E.Good l) (i : Nat) (t : T) (j : Nat) (h : E.alt 20 l i = .ok (t, j)) : Few t := by
 refine E.alt_all (M := fun t _ _ => Few t) ?_ ?_ ?_ ?_ ?_ ?_ hg 20 i t j h
 · intro i j a _ _
   rw [Few]
   exact ⟨by simp, by simp, fun t ht => by cases ht⟩
 · intro i j a s _ _ h3 _ _
   rw [Few]
   exact ⟨by omega, by simp, fun t ht => by cases ht⟩
 · intro i a
   rw [Few]
   exact ⟨by simp, by simp, fun t ht => by cases ht⟩
 · intro t i j h
   exact h
 · intro t i j k _ h
   rw [Few]
   exact ⟨by simp, by simp, fun u hu => by rw [List.mem_singleton] at hu; rw [hu]; exact h⟩
 · intro t u i j m n k _ h _ h2
   rw [Few]
   refine ⟨by simp, by simp, fun v hv => ?_⟩
   rcases List.mem_cons.1 hv with rfl | hv
   · exact h
   · rw [List.mem_singleton] at hv
     rw [hv]
     exact h2
def tZ : T := .mk 0 0 [] [] []
theorem tr_z (W : World) : TR W (fun _ => True) tZ zN := by
 unfold tZ zN
 rw [TR]
 exact ⟨none, 0, none, 0, rfl, U.rdr_nil _ _, Nat.le_refl _, by rw [KR]; trivial⟩
theorem few_z : Few tZ := by
 unfold tZ
 rw [Few]
 exact ⟨by simp, by simp, fun t ht => by cases ht⟩
theorem both {r : E.Res} {w1 W1 : World} {e1 : Ending} (h1 : AnsR r w1 e1 W1) (hf : ∀ t j, r = .ok (t, j) → Few t) :
   ∃ (t : T) (d1 : ND) (j c : Nat), Few t ∧ e1 = .returned (.tuple #[d1.v, .int .i64 (j : Int), .int .i64 (c : Int)]) ∧ TR W1 (fun _ => True) t d1.v ∧
     ∀ (w2 : World) (e2 : Ending) (W2 : World), AnsRQ r w2 e2 W2 → Below w2.heap.size w2 W2 ∧ ∃ d2 : ND, e2 = .returned (.tuple #[d2.v, .int .i64 (j : Int), .int .i64 (c : Int)]) ∧ TR W2 (fun _ => True) t d2.v := by
 obtain ⟨_, ⟨t, j, v, hr, rfl, htr⟩ | ⟨c, j, hr, rfl, hc⟩⟩ := h1
 · have k1 := TR.mono (ok' := fun _ => True) (fun _ _ _ => trivial) t htr
   obtain ⟨d1, rfl, _⟩ := k1.nd
   refine ⟨t, d1, j, 0, hf t j hr, rfl, k1, ?_⟩
   rintro w2 e2 W2 ⟨hb, ⟨t', j', v', hr', rfl, htr'⟩ | ⟨c, j', hr', _⟩⟩
   · rw [hr] at hr'
     cases hr'
     have k2 := TR.mono (ok' := fun _ => True) (fun _ _ _ => trivial) t htr'
     obtain ⟨d2, rfl, _⟩ := k2.nd
     exact ⟨hb, d2, rfl, k2⟩
   · rw [hr] at hr'
     cases hr'
 · refine ⟨tZ, ⟨0, 0, none, 0, 0, ⟨#[]⟩, none, 0, 0⟩, j, c, few_z, rfl, tr_z _, ?_⟩
   rintro w2 e2 W2 ⟨hb, ⟨t', j', v', hr', _⟩ | ⟨c', j', hr', _, rfl⟩⟩
   · rw [hr] at hr'
     cases hr'
   · rw [hr] at hr'
     cases hr'
     exact ⟨hb, ⟨0, 0, none, 0, 0, ⟨#[]⟩, none, 0, 0⟩, rfl, tr_z _⟩
set_option maxRecDepth 100000 in
set_option maxHeartbeats 1000000 in
theorem reads_any (s : ByteArray) (z : Int) (w : World) (ht : Tabs w) (hd : Deb w) : Calls Tryz.prog 4 #[.string s, .int .i64 z] w fun e w' => e = .returned (.bool true) ∧ Below w.heap.size w w' := by
 have hk := known_any w ht hd
 by_cases h500 : 500 < s.size
 · have g1 : decide ((500 : Int) < (s.size : Int)) = true := decide_eq_true (by omega)
   go_enter Tryz.func4, Tryz.ntmps4
   go_wp2_with fail
   refine hk.mono ?_
   rintro e w1 ⟨rfl, hb1⟩
   clear hk
   go_wp2
   go_ret
   exact ⟨rfl, hb1⟩
 have g1 : decide ((500 : Int) < (s.size : Int)) = false := decide_eq_false (by omega)
 have hs : s.size ≤ 500 := by omega
 by_cases hz : z < 0
 · have g2 : decide (z < 0) = true := decide_eq_true hz
   go_enter Tryz.func4, Tryz.ntmps4
   go_wp2_with fail
   refine hk.mono ?_
   rintro e w1 ⟨rfl, hb1⟩
   clear hk
   go_wp2
   go_ret
   exact ⟨rfl, hb1⟩
 obtain ⟨i, rfl⟩ := Int.eq_ofNat_of_zero_le (show 0 ≤ z by omega)
 have g2 : decide ((i : Int) < 0) = false := decide_eq_false hz
 clear hz h500
 go_enter Tryz.func4, Tryz.ntmps4
 go_wp2_with fail
 refine hk.mono ?_
 rintro e w1 ⟨rfl, hb1⟩
 clear hk
 have hsc := scan_any s (by omega) w1
 have HG := hide (fun l => @scan_good (bts s) l)
 have HLN : Hid ((bts s).length ≤ 39999) := hide (by rw [bts_len]; omega)
 generalize X.scan 0 (bts s) = sr at *
 go_wp2_with fail
 refine hsc.mono ?_
 clear hsc
 rintro e w2 ⟨⟨l, v, rfl, rfl, hown⟩ | ⟨at_, rfl, rfl⟩, hb2⟩
 · have hg := HG.out l rfl HLN.out
   have bW2 := nx hb1 hb2
   obtain ⟨ap, cp, rfl, hcp, hnp, hrk⟩ := hown.rd
   have hlo := ownK_lt hown
   have hl := hg.1
   have HGD := hide hg.2
   have HLO : Hid (∀ b off, ap = some ⟨b, off, none⟩ → b < w2.heap.size) := hide (fun b off e => hlo b off e)
   have HRK := hide hrk
   clear HG hown hlo hg hb2 hrk
   go_wp2_with (refine wpl_appKs rfl _ _ rfl ap l _ cp rfl rfl rfl HRK.out hnp (by omega) ?_; intro v3 w3 hown3 hb3)
   obtain ⟨ap3, cp3, rfl, _, _, hrk3⟩ := hown3.rd
   have hlo3 := ownK_lt hown3
   have hrd := read_any ap3 cp3 l i hl HGD.out w3 hrk3 hlo3
   have HFW := hide (fun t j (h : E.alt 20 l i = .ok (t, j)) => alt_few HGD.out i t j h)
   have HRQ := hide (fun (W : World) (hb : Below w2.heap.size w2 W) => readQ ap cp l i hl HGD.out W (HRK.out.later hb) (fun b off e => Nat.lt_of_lt_of_le (HLO.out b off e) hb.size))
   generalize E.alt 20 l i = r at *
   have HB3 := hide hb3
   clear hown3 hrk3 hlo3 hb3
   go_wp2_with fail
   refine hrd.mono ?_
   intro e w4 ha1
   have hb4 := ha1.1
   obtain ⟨t, d1, j, c, hfw, rfl, ht1, hbo⟩ := both ha1 HFW.out
   have HBO := hide hbo
   have HF := hide hfw
   have b4 := nx HB3.out hb4
   clear ha1 hrd hbo hfw hb4 HFW
   unfold ND.v
   have a5 := al1 w4 (.cells #[.int .i64 d1.k, .int .i64 d1.a, .slice d1.sp d1.sl d1.sc, .string d1.n, .slice d1.kp d1.kl d1.kc] 26)
   have n5 := heap_alloc_new w4 (.cells #[.int .i64 d1.k, .int .i64 d1.a, .slice d1.sp d1.sl d1.sc, .string d1.n, .slice d1.kp d1.kl d1.kc] 26)
   obtain ⟨w5, hw5⟩ : ∃ w5, w4.alloc (.cells #[.int .i64 d1.k, .int .i64 d1.a, .slice d1.sp d1.sl d1.sc, .string d1.n, .slice d1.kp d1.kl d1.kc] 26) = w5 := ⟨_, rfl⟩
   rw [hw5] at a5 n5
   have b5 := nx b4 a5
   have T5 := hide (TR.later (fun k hk => a5.block k hk) _ ht1)
   have hrq := HRQ.out w5 b5
   clear ht1 HRQ a5
   go_wp2_with fail
   refine hrq.mono ?_
   intro e w6 ha2
   obtain ⟨hb6, d2, rfl, ht2⟩ := HBO.out _ _ _ ha2
   have T6 := hide (TR.later (fun k hk => hb6.block k hk) _ T5.out)
   have n6 := (hb6.block w4.heap.size (Array.getElem?_eq_some_iff.1 n5).1).trans n5
   have b6 := nx b5 hb6
   clear hrq ha2 HBO hb6 T5 n5 hw5
   unfold ND.v
   have a7 := al1 w6 (.cells #[.int .i64 d2.k, .int .i64 d2.a, .slice d2.sp d2.sl d2.sc, .string d2.n, .slice d2.kp d2.kl d2.kc] 26)
   have n7 := heap_alloc_new w6 (.cells #[.int .i64 d2.k, .int .i64 d2.a, .slice d2.sp d2.sl d2.sc, .string d2.n, .slice d2.kp d2.kl d2.kc] 26)
   have m7 := (a7.block w4.heap.size (Array.getElem?_eq_some_iff.1 n6).1).trans n6
   obtain ⟨w7, hw7⟩ : ∃ w7, w6.alloc (.cells #[.int .i64 d2.k, .int .i64 d2.a, .slice d2.sp d2.sl d2.sc, .string d2.n, .slice d2.kp d2.kl d2.kc] 26) = w7 := ⟨_, rfl⟩
   rw [hw7] at a7 n7 m7
   have b7 := nx b6 a7
   have hex := exactQ t HF.out d1 d2 w7 (TR.later (fun k hk => a7.block k hk) _ T6.out) (TR.later (fun k hk => a7.block k hk) _ ht2)
   unfold ND.v at hex
   obtain ⟨y0, y1, y2, y3, y4⟩ := cells_five m7
   obtain ⟨z0, z1, z2, z3, z4⟩ := cells_five n7
   have HB7 := hide (nx bW2 b7)
   clear a7 n7 m7 n6 T6 ht2 b4 b5 b6 b7 bW2
   go_wp2_with fail
   refine hex.mono ?_
   rintro e w8 ⟨rfl, hb8⟩
   have b8 := nx HB7.out hb8
   clear hex
   go_wp2
   go_ret
   exact ⟨rfl, b8⟩
 · have bW2 := nx hb1 hb2
   go_wp2
   go_ret
   exact ⟨rfl, bW2⟩
end Go.Proofs.YtamhjnemmdcniaaGreatDoor
