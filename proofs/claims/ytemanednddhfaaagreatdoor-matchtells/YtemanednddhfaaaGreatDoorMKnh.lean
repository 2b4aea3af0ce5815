/- Joined: Rbl Plt Knh. -/
import Derived.Test.YtemanednddhfaaaGreatDoorMRen
import Derived.Test.YtemanednddhfaaaGreatDoorMPlo
import Derived.BigQuiet
import Derived.RangeFuncBox
import Derived.Maps.AppendAt
import Derived.Test.YtemanednddhfaaaGreatDoorMLf1
import Derived.Lib.TrailingZeros
import Derived.Shelf.Spec.TrailingZeros
import Derived.Laws.Bits64b
import Derived.Test.YtemanednddhfaaaGreatDoorMPre
import Derived.Test.YtemanednddhfaaaGreatDoorMRstx
import Derived.Test.YtemanednddhfaaaGreatDoorMMtm
import Derived.Test.YtemanednddhfaaaGreatDoorMPlm
import Derived.Test.YtemanednddhfaaaGreatDoorMUIs
namespace Go.Proofs.YtemanednddhfaaaGreatDoor
open Go.RowKit Go.Shelf
open E (T Rx rxOf Vp)
attribute [local go_sem] Oper.semAt_some
def E.lstK (m k : Nat) : List Int := ((List.range k).filter fun i => m.testBit i).map fun (i : Nat) => (i : Int)
theorem E.lstK_succ (m k : Nat) : E.lstK m (k + 1) = E.lstK m k ++ if m.testBit k then [(k : Int)] else [] := by
 unfold E.lstK
 rw [List.range_succ, List.filter_append, List.map_append]
 cases h : m.testBit k <;> simp [h]
theorem E.lstK_len (m k : Nat) : (E.lstK m k).length ≤ k := by
 unfold E.lstK
 rw [List.length_map]
 exact Nat.le_trans (List.length_filter_le _ _) (by simp)
theorem OwnI.bel {w w' : World} {B : Nat} {v : Value} {ss : List Int} (ho : OwnI w B v ss) (hg : w.grownBy w' v.ownBlock) (hB : B ≤ w.heap.size) : Below B w w' :=
 (Below.refl _ _).grown hg hB (fun k hk => by
   obtain ⟨_, ⟨rfl, _⟩ | ⟨g, cap, cur, rfl, hb, _⟩⟩ := ho
   · simp [Value.ownBlock] at hk
   · simp [Value.ownBlock] at hk; omega)
theorem grown_alloc {w wr w1 : World} {v : Value} {ss : List Int} {o : Obj} (hB : Below w.heap.size w wr) (ho : OwnI wr w.heap.size v ss) (hg : (wr.alloc o).grownBy w1 v.ownBlock) : Below w.heap.size w w1 :=
 (nx hB ((al1 wr o))).trans ((ho.alloc o).bel hg (by have := hB.size; simp; omega))
theorem cv_u64 {i : Nat} (h : i ≤ 1000000) : IntKind.u64.wrap (i : Int) = (i : Int) := IntWalk.u64_in _ ⟨by omega, by omega⟩
theorem and_one_u64 {m : Nat} (hm : m < 2 ^ 64) : bits .and .u64 (m : Int) 1 = ((m % 2 : Nat) : Int) := by
 have e := bits_and_u64_nat m 1 hm (by decide)
 rw [Nat.and_one_is_mod] at e
 exact e
theorem bit_u64 (m i : Nat) (hm : m < 2 ^ 64) : ∃ q : Nat, bits .and .u64 ((m : Int) / 2 ^ i) 1 = (q : Int) ∧ ((q : Int) == 1) = m.testBit i := by
 refine ⟨m / 2 ^ i % 2, ?_, bit_at m i⟩
 have := and_one_u64 (m := m / 2 ^ i) (Nat.lt_of_le_of_lt (Nat.div_le_self _ _) hm)
 rw [← this]
 simp
set_option maxRecDepth 100000 in
set_option maxHeartbeats 4000000 in
theorem list34 (m : Nat) (hm : m < 2 ^ 64) (w : World) : Calls Tryz.prog 34 #[.int .u64 (m : Int)] w fun e W => ∃ v, e = .returned v ∧ OwnI W w.heap.size v (E.lst m) ∧ Below w.heap.size w W := by
 obtain ⟨i0, hi0, hz0, hz1, hz2⟩ : ∃ i, Tryz.prog.info? 3 = some i ∧ i.zero = some (.int .i64 0) ∧ i.size = 1 ∧ i.bytes = 8 := by
   have h := info3N
   cases hi : Tryz.prog.info? 3 with
   | none => rw [hi] at h; cases h
   | some i => rw [hi] at h; simp at h; exact ⟨i, rfl, h.1, h.2.1, h.2.2⟩
 go_enter Tryz.func34, Tryz.ntmps34
 go_wp2
 go_loopw [3, 4] (fun p u wr => ∃ i : Nat, u = .int .i64 (i : Int) ∧ i ≤ 64 ∧ OwnI wr w.heap.size p (E.lstK m i) ∧ Below w.heap.size w wr) (fun _ u _ => 64 - (intOf u).toNat)
 case atStart => exact ⟨0, rfl, by decide, ownI_nil _ _, Below.refl _ _⟩
 case round =>
   obtain ⟨i, rfl, hi, ho, hB⟩ := hrel
   by_cases hlt : i < 64
   · have hcv := cv_u64 (i := i) (by omega)
     obtain ⟨q, han, hbt⟩ := bit_u64 m i hm
     have hi64 : (i : Int) ≤ 64 := by omega
     have hi0' : (0 : Int) ≤ (i : Int) := by omega
     have HK := hide (E.lstK_succ m i)
     have hln := E.lstK_len m i
     have HO := hide ho
     cases hb : m.testBit i
     · rw [hb] at hbt HK
       clear ho
       go_wp2
       go_roundw
       case rel => exact ⟨i + 1, by go_num, by omega, by rw [HK.out]; simpa using HO.out, hB⟩
       case measure => simp [intOf] <;> omega
     · rw [hb] at hbt HK
       have hOa := HO.out.alloc (.cells #[.int .i64 (i : Int)] 3)
       obtain ⟨ln, hle⟩ : ∃ ln, (E.lstK m i).length = ln := ⟨_, rfl⟩
       unfold OwnI at hOa
       rw [hle] at hOa hln
       have HLE := hide hle
       have hsB := hB.size
       clear ho hle
       go_wp2_with (at_builtin; (refine wpList_append_own_at _ rfl _ _ 60 rfl w.heap.size 3 i0 (.int .i64 0) 1 8 Tryz.underlying60 hi0 hz0 hz1 hz2 rfl (by decide) _ _ _ rfl hOa ⟨wr.heap.size, 0, none⟩ 1 1 [.int .i64 (i : Int)] rfl rfl (cell_one_new _ _ _) (by simp [Value.oneCell']) (by unfold maxLen; omega) (by omega) (by simp; omega) ?_; intro v1 w1 hown' hgrow _ hat; obtain ⟨g', cap', rfl⟩ := ownsRow_succ hown'))
       have hB2 : Below w.heap.size w w1 := grown_alloc hB HO.out hgrow
       go_roundw
       case rel => exact ⟨i + 1, by go_num, by omega, by rw [HK.out]; unfold OwnI; rw [List.length_append, List.map_append, HLE.out]; exact hown', hB2⟩
       case measure => simp [intOf] <;> omega
   · obtain rfl : i = 64 := by omega
     go_wp2
     exact bodyPost_ret (by simp [results, Tryz.results34, go_sem]) rfl ⟨_, rfl, ho, hB⟩
def RdI (w : World) (ao : Option Addr) (zs : List Int) : Prop := ∀ i (h : i < zs.length), ∃ b off, ao = some ⟨b, off, none⟩ ∧ w.cell? ⟨b, off + i, none⟩ = some (.int .i64 zs[i])
theorem RdI.later {w wx : World} {ao : Option Addr} {zs : List Int} (h : RdI w ao zs) (hb : Below w.heap.size w wx) : RdI wx ao zs := fun i hi =>
 let ⟨b, off, e, h1⟩ := h i hi
 ⟨b, off, e, cell_later hb h1⟩
theorem OwnI.rd {w : World} {B : Nat} {v : Value} {zs : List Int} (h : OwnI w B v zs) : ∃ ao c, v = .slice ao zs.length c ∧ RdI w ao zs := by
 obtain ⟨_, ⟨rfl, h2⟩ | ⟨g, cap, cur, rfl, hb, hg, hn, hm, hs, ht⟩⟩ := h
 · refine ⟨none, 0, by rw [h2], fun i hi => by omega⟩
 · refine ⟨_, _, rfl, fun i hi => ⟨g, 0, rfl, ?_⟩⟩
   have e : (cur.toList.take (zs.length * 1))[i]? = (zs.map (Value.int .i64))[i]? := by rw [ht]
   rw [Nat.mul_one, List.getElem?_take, if_pos hi, List.getElem?_map, List.getElem?_eq_getElem hi] at e
   simp only [World.cell?, hg, Nat.zero_add]
   rw [← Array.getElem?_toList]
   exact e
theorem elemSize60 (w : World) : (sizeOf (Tryz.prog.elem 60)).run Tryz.prog w = .ok 1 w := by kernel_rfl
set_option maxRecDepth 100000 in
set_option maxHeartbeats 4000000 in
theorem ints32 {xs ys : List Int} (ao bo : Option Addr) (ca cb : Nat) (hl : xs.length ≤ 1000000) (w : World) (hx : RdI w ao xs) (hy : RdI w bo ys) :
   Calls Tryz.prog 32 #[.slice ao xs.length ca, .slice bo ys.length cb] w fun e W => U.Told (xs = ys) e ∧ Below w.heap.size w W := by
 by_cases hn : xs.length = ys.length
 · have es := elemSize60
   have hlx : Hid (ys.length = xs.length) := hide hn.symm
   rw [← hn]
   have hbe : ((xs.length : Int) == (xs.length : Int)) = true := by simp
   clear hn
   go_enter Tryz.func32, Tryz.ntmps32
   go_wp2
   go_loopw [5] (fun u wr => ∃ i : Nat, u = .int .i64 (i : Int) ∧ i ≤ xs.length ∧ Hid (xs.take i = ys.take i) ∧ Below w.heap.size w wr) (fun u _ => xs.length - (intOf u).toNat)
   case atStart => exact ⟨0, rfl, Nat.zero_le _, hide rfl, Below.refl _ _⟩
   case round =>
     obtain ⟨i, rfl, hi, HE, hB⟩ := hrel
     by_cases hlt : i < xs.length
     · have hlt2 : i < ys.length := by rw [hlx.out]; exact hlt
       obtain ⟨b, off, rfl, hc⟩ := hx.later hB i hlt
       obtain ⟨b2, off2, rfl, hc2⟩ := hy.later hB i hlt2
       have HX : Hid (xs.take (i + 1) = xs.take i ++ [xs[i]]) := hide (List.take_succ_eq_append_getElem hlt)
       have HY : Hid (ys.take (i + 1) = ys.take i ++ [ys[i]]) := hide (List.take_succ_eq_append_getElem hlt2)
       have HN : Hid (xs[i] ≠ ys[i] → xs ≠ ys) := hide (fun h e => h (by subst e; rfl))
       generalize xs[i] = x at *
       generalize ys[i] = y at *
       by_cases hxy : x = y
       · subst hxy
         clear hx hy
         have hbq : (x == x) = true := by simp
         go_wp2
         go_region
         go_wp2
         go_roundw
         case rel => exact ⟨i + 1, by go_num, by omega, hide (by rw [HX.out, HY.out, HE.out]), ⟨hB.os, hB.tape, hB.output, hB.size, hB.block⟩⟩
         case measure => simp [intOf] <;> omega
       · clear hx hy
         have hbq : (x == y) = false := by simp [hxy]
         go_wp2
         go_region
         go_wp2
         go_ret
         exact ⟨U.told_no (HN.out hxy), ⟨hB.os, hB.tape, hB.output, hB.size, hB.block⟩⟩
     · obtain rfl : i = xs.length := by omega
       have HE2 : Hid (xs = ys) := hide (by
         have h1 := HE.out
         rw [List.take_length] at h1
         rw [h1]
         exact List.take_of_length_le (by rw [hlx.out]; exact Nat.le_refl _))
       go_wp2
       go_ret
       exact ⟨U.told_yes HE2.out, hB⟩
 · have hbe : ((xs.length : Int) == (ys.length : Int)) = false := by simp; omega
   have HN := hide hn
   go_enter Tryz.func32, Tryz.ntmps32
   go_wp2
   go_ret
   exact ⟨U.told_no (fun e => HN.out (by rw [e])), Below.refl _ _⟩
open Classical in
noncomputable def rE (t : T) (xs : List Int) (f : Int) : Nat := if 0 ≤ f ∧ f ≤ (xs.length : Int) ∧ E.PlainP t then E.eM xs (rxOf t) (2 ^ f.toNat) else 0
theorem rE_no {t : T} {xs : List Int} {f : Int} (h : ¬ (0 ≤ f ∧ f ≤ (xs.length : Int) ∧ E.PlainP t)) : rE t xs f = 0 := if_neg h
theorem rE_yes {t : T} {xs : List Int} {f : Int} (h : 0 ≤ f ∧ f ≤ (xs.length : Int) ∧ E.PlainP t) : rE t xs f = E.eM xs (rxOf t) (2 ^ f.toNat) := if_pos h
theorem rE_lt (t : T) (xs : List Int) (f : Int) : rE t xs f < 2 ^ (xs.length + 1) := by
 by_cases h : 0 ≤ f ∧ f ≤ (xs.length : Int) ∧ E.PlainP t
 · rw [rE_yes h]
   exact (E.eM_ok xs _ (E.kd_of t h.2.2.vp) _ (Nat.pow_lt_pow_right (by decide) (by omega))).1
 · rw [rE_no h]
   exact Nat.two_pow_pos _
set_option maxRecDepth 100000 in
set_option maxHeartbeats 8000000 in
theorem ends35 (t : T) (hF : InT t) (hps : (E.pre t t).length ≤ 1000000) (d : ND) (f : Int) {ao : Option Addr} {cap : Nat} {xs : List Int} (hn : xs.length ≤ 60) (w : World) (hx : RdC32 w ao xs) (hT : TR w (fun _ => True) t d.v) :
   Calls Tryz.prog 35 #[d.v, .slice ao xs.length cap, .int .i64 f] w fun e W => e = .returned (.int .u64 (rE t xs f : Int)) ∧ Below w.heap.size w W := by
 have b1 := al1 w (.cells #[.int .i64 d.k, .int .i64 d.a, .slice d.sp d.sl d.sc, .string d.n, .slice d.kp d.kl d.kc] 26)
 have n1 := heap_alloc_new w (.cells #[.int .i64 d.k, .int .i64 d.a, .slice d.sp d.sl d.sc, .string d.n, .slice d.kp d.kl d.kc] 26)
 have s1 : (w.alloc (.cells #[.int .i64 d.k, .int .i64 d.a, .slice d.sp d.sl d.sc, .string d.n, .slice d.kp d.kl d.kc] 26)).heap.size = w.heap.size + 1 := by simp
 obtain ⟨X, hX⟩ : ∃ X, w.alloc (.cells #[.int .i64 d.k, .int .i64 d.a, .slice d.sp d.sl d.sc, .string d.n, .slice d.kp d.kl d.kc] 26) = X := ⟨_, rfl⟩
 rw [hX] at b1 n1 s1
 have HL := hide (fun W (hb : Below w.heap.size w W) => (⟨TR.later (fun k hk => hb.block k hk) _ hT, hx.later hb⟩ : TR W (fun _ => True) t d.v ∧ RdC32 W ao xs))
 have HFn := hide hF
 have HPS := hide hps
 clear hT hx
 unfold ND.v
 obtain ⟨q0, q1, q2, q3, q4⟩ := cells_five n1
 by_cases h1 : f < 0
 · have HR := hide (rE_no (t := t) (xs := xs) (f := f) (fun h => by omega))
   go_enter Tryz.func35, Tryz.ntmps35
   go_wp2
   go_ret
   exact ⟨by rw [HR.out]; rfl, b1⟩
 by_cases h2 : (xs.length : Int) < f
 · have HR := hide (rE_no (t := t) (xs := xs) (f := f) (fun h => by omega))
   go_enter Tryz.func35, Tryz.ntmps35
   go_wp2
   go_ret
   exact ⟨by rw [HR.out]; rfl, b1⟩
 obtain ⟨k, rfl⟩ := Int.eq_ofNat_of_zero_le (show 0 ≤ f by omega)
 have hI := isR_any t HFn.out d X (HL.out X b1).1
 unfold ND.v at hI
 go_enter Tryz.func35, Tryz.ntmps35
 go_wp2_with fail
 refine hI.mono ?_
 rintro e W1 ⟨⟨b, rfl, hbI⟩, hb1⟩
 have B1 := nx b1 hb1
 have m1 := (hb1.block w.heap.size (by omega)).trans n1
 have z1 : w.heap.size + 1 ≤ W1.heap.size := by have := hb1.size; omega
 have HBI := hide hbI
 clear hI hb1 hbI q0 q1 q2 q3 q4 n1 b1 s1
 cases b with
 | false =>
   have HR := hide (rE_no (t := t) (xs := xs) (f := (k : Int)) (fun h => by have := HBI.out.2 h.2.2.1; cases this))
   go_wp2
   go_ret
   exact ⟨by rw [HR.out]; rfl, B1⟩
 | true =>
   have hIp := HBI.out.1 rfl
   have hN := namesR_any t HPS.out (PA.names_of hIp) d W1 (HL.out W1 B1).1
   obtain ⟨q0, q1, q2, q3, q4⟩ := cells_five m1
   have HI := hide hIp
   unfold ND.v at hN
   clear hIp HBI
   go_wp2_with fail
   refine hN.mono ?_
   rintro e W2 ⟨u, rfl, ho, hb2⟩
   obtain ⟨no, cN, rfl⟩ := ho.rd'
   have B2 := nx B1 hb2
   have m2 := (hb2.block _ (Array.getElem?_eq_some_iff.1 m1).1).trans m1
   clear hN ho hb2 m1 z1 q0 q1 q2 q3 q4 B1
   obtain ⟨nl, hnl⟩ : ∃ nl, (E.nmL t).length = nl := ⟨_, rfl⟩
   have HNL := hide hnl
   rw [hnl]
   clear hnl
   by_cases hl : 0 < nl
   · have HR := hide (rE_no (t := t) (xs := xs) (f := (k : Int)) (fun h => by have h3 := (E.nmL_nil t).2 h.2.2.2; have := HNL.out; omega))
     go_wp2
     go_ret
     exact ⟨by rw [HR.out]; rfl, B2⟩
   · have hP : E.PlainP t := ⟨HI.out, (E.nmL_nil t).1 (by have := HNL.out; omega)⟩
     have HR := hide (rE_yes (t := t) (xs := xs) (f := (k : Int)) ⟨by omega, by omega, hP⟩)
     obtain ⟨q0, q1, q2, q3, q4⟩ := cells_five m2
     have hk : k ≤ xs.length := by omega
     have hcall := ends66 (ao := ao) (cap := cap) hn t hP.vp (2 ^ k) (Nat.pow_lt_pow_right (by decide) (by omega)) d W2 (HL.out W2 B2).2 (HL.out W2 B2).1
     have hcv := cv_u64 (i := k) (by omega)
     have hk64 : (k : Int) ≤ 64 := by omega
     have hsh := (shl_one (k := k) (by omega)).1
     obtain ⟨p, hp⟩ : ∃ p, 2 ^ k = p := ⟨_, rfl⟩
     rw [hp] at hcall hsh
     unfold ND.v at hcall
     have HP2 := hide hp
     clear hP hp
     go_wp2_with fail
     refine hcall.mono ?_
     rintro e W3 ⟨rfl, hb3⟩
     have B3 := nx B2 hb3
     clear hcall hb3 q0 q1 q2 q3 q4
     go_wp2
     go_ret
     exact ⟨by rw [HR.out, Int.toNat_natCast, HP2.out]; rfl, B3⟩
noncomputable def rB (t : T) (xs : List Int) (f : Int) : Nat → Nat
 | 0 => 0
 | k + 1 => rB t xs f k ||| (if f ≤ (xs.length : Int) ∧ (rE t xs (k : Int)).testBit f.toNat = true then 2 ^ k else 0)
theorem rB_lt (t : T) (xs : List Int) (f : Int) : ∀ k, rB t xs f k < 2 ^ k
 | 0 => by unfold rB; decide
 | k + 1 => by
   rw [rB]
   refine Nat.or_lt_two_pow (Nat.lt_of_lt_of_le (rB_lt t xs f k) (Nat.pow_le_pow_right (by decide) (by omega))) ?_
   split
   · exact Nat.pow_lt_pow_right (by decide) (by omega)
   · exact Nat.two_pow_pos _
theorem rB_eq {t : T} {xs : List Int} {f : Nat} (hf : f ≤ xs.length) (hP : E.PlainP t) : ∀ k, k ≤ xs.length + 1 → rB t xs (f : Int) k = bM xs (rxOf t) f k
 | 0, _ => rfl
 | k + 1, hk => by
   rw [rB, bM, rB_eq hf hP k (by omega), rE_yes ⟨by omega, by omega, hP⟩, Int.toNat_natCast, Int.toNat_natCast]
   congr 1
   by_cases hc : (E.eM xs (rxOf t) (2 ^ k)).testBit f = true
   · rw [if_pos hc, if_pos ⟨by omega, hc⟩]
   · rw [if_neg hc, if_neg (fun h => hc h.2)]
theorem rB_no {t : T} {xs : List Int} {f : Int} (h : ¬ (f ≤ (xs.length : Int) ∧ E.PlainP t)) : ∀ k, rB t xs f k = 0
 | 0 => rfl
 | k + 1 => by
   rw [rB, rB_no h k, if_neg ?_]
   · rfl
   · rintro ⟨h1, h2⟩
     rw [rE_no (fun h3 => h ⟨h1, h3.2.2⟩)] at h2
     simp at h2
def rN (n : Nat) (f : Int) : Nat := if f < 0 then 0 else min (f.toNat + 1) (n + 1)
set_option maxRecDepth 100000 in
set_option maxHeartbeats 8000000 in
theorem begs37 (t : T) (hF : InT t) (hps : (E.pre t t).length ≤ 1000000) (d : ND) (f : Int) {ao : Option Addr} {cap : Nat} {xs : List Int} (hn : xs.length ≤ 60) (w : World) (hx : RdC32 w ao xs) (hT : TR w (fun _ => True) t d.v) :
   Calls Tryz.prog 37 #[d.v, .slice ao xs.length cap, .int .i64 f] w fun e W => e = .returned (.int .u64 (rB t xs f (rN xs.length f) : Int)) ∧ Below w.heap.size w W := by
 have b1 := al1 w (.cells #[.int .i64 d.k, .int .i64 d.a, .slice d.sp d.sl d.sc, .string d.n, .slice d.kp d.kl d.kc] 26)
 have n1 := heap_alloc_new w (.cells #[.int .i64 d.k, .int .i64 d.a, .slice d.sp d.sl d.sc, .string d.n, .slice d.kp d.kl d.kc] 26)
 have s1 : (w.alloc (.cells #[.int .i64 d.k, .int .i64 d.a, .slice d.sp d.sl d.sc, .string d.n, .slice d.kp d.kl d.kc] 26)).heap.size = w.heap.size + 1 := by simp
 obtain ⟨X, hX⟩ : ∃ X, w.alloc (.cells #[.int .i64 d.k, .int .i64 d.a, .slice d.sp d.sl d.sc, .string d.n, .slice d.kp d.kl d.kc] 26) = X := ⟨_, rfl⟩
 rw [hX] at b1 n1 s1
 have hends := fun W (hb : Below w.heap.size w W) (f : Int) => ends35 t hF hps d f (ao := ao) (cap := cap) hn W (hx.later hb) (TR.later (fun k hk => hb.block k hk) _ hT)
 unfold ND.v at hends ⊢
 have HN := hide (show ∀ i : Nat, i ≤ rN xs.length f → ¬ ((i : Int) ≤ f ∧ i ≤ xs.length) → rN xs.length f = i by
   intro i hi h
   unfold rN at *
   split at hi <;> split <;> omega)
 have HM := hide (show ∀ i : Nat, i ≤ rN xs.length f → ((i : Int) ≤ f ∧ i ≤ xs.length) → i + 1 ≤ rN xs.length f by
   intro i hi h
   unfold rN at *
   split at hi <;> split <;> omega)
 have HQ := hide (show rN xs.length f ≤ xs.length + 1 by unfold rN; split <;> omega)
 obtain ⟨rn, hrn⟩ : ∃ rn, rN xs.length f = rn := ⟨_, rfl⟩
 rw [hrn] at HN HM HQ ⊢
 clear hT hx hrn
 go_enter Tryz.func37, Tryz.ntmps37
 go_wp2
 go_loopw [7, 8] (fun p u wr => ∃ i : Nat, p = .int .u64 (rB t xs f i : Int) ∧ u = .int .i64 (i : Int) ∧ i ≤ rn ∧ Below X.heap.size X wr) (fun _ u _ => rn - (intOf u).toNat)
 case atStart => exact ⟨0, rfl, rfl, Nat.zero_le _, Below.refl _ _⟩
 case round =>
   obtain ⟨i, rfl, rfl, hi, hB⟩ := hrel
   have hBw := nx b1 hB
   by_cases hgo : (i : Int) ≤ f ∧ i ≤ xs.length
   · obtain ⟨g1, g2⟩ := hgo
     have g2' : (i : Int) ≤ (xs.length : Int) := by omega
     have hr1 := HM.out i hi ⟨g1, g2⟩
     obtain ⟨k, rfl⟩ := Int.eq_ofNat_of_zero_le (show 0 ≤ f by omega)
     have HST := hide (show rB t xs (k : Int) (i + 1) = rB t xs (k : Int) i ||| (if (k : Int) ≤ (xs.length : Int) ∧ (rE t xs (i : Int)).testBit (k : Int).toNat = true then 2 ^ i else 0) from rfl)
     have hlo := rB_lt t xs (k : Int) i
     obtain ⟨x, hx⟩ : ∃ x, rB t xs (k : Int) i = x := ⟨_, rfl⟩
     rw [hx] at hlo HST ⊢
     have HX := hide hx
     clear hx
     by_cases hkn : (k : Int) ≤ (xs.length : Int)
     · have hcall := hends wr hBw (i : Int)
       have hlt := rE_lt t xs (i : Int)
       obtain ⟨m, hm⟩ : ∃ m, rE t xs (i : Int) = m := ⟨_, rfl⟩
       rw [hm] at hcall hlt HST
       have hm64 : m < 2 ^ 64 := Nat.lt_of_lt_of_le hlt (Nat.pow_le_pow_right (by decide) (by omega))
       obtain ⟨q, han, hbt⟩ := bit_u64 m k hm64
       have hcv := cv_u64 (i := k) (by omega)
       have hcv2 := cv_u64 (i := i) (by omega)
       have hk64 : (k : Int) ≤ 64 := by omega
       have hi64 : (i : Int) ≤ 64 := by omega
       have hsh := (shl_one (k := i) (by omega)).1
       have ho := bits_or_u64_nat x (2 ^ i) (Nat.lt_of_lt_of_le hlo (Nat.pow_le_pow_right (n := 2) (by decide) (show i ≤ 64 by omega))) (shl_one (k := i) (by omega)).2
       obtain ⟨p, hp⟩ : ∃ p, 2 ^ i = p := ⟨_, rfl⟩
       rw [hp] at ho hsh HST
       have n3 := (hB.block w.heap.size (by omega)).trans n1
       obtain ⟨q0, q1, q2, q3, q4⟩ := cells_five n3
       rw [Int.toNat_natCast] at HST
       clear hm hp
       cases hb : m.testBit k
       · rw [hb] at hbt HST
         clear hb
         go_wp2_with fail
         refine hcall.mono ?_
         rintro e W2 ⟨rfl, hb2⟩
         have hBn := nx hB hb2
         clear hcall hb2 q0 q1 q2 q3 q4
         go_wp2
         go_roundw
         case rel => exact ⟨i + 1, by rw [HST.out]; simp, by go_num, hr1, hBn⟩
         case measure => simp [intOf] <;> omega
       · rw [hb] at hbt HST
         clear hb
         go_wp2_with fail
         refine hcall.mono ?_
         rintro e W2 ⟨rfl, hb2⟩
         have hBn := nx hB hb2
         clear hcall hb2 q0 q1 q2 q3 q4
         go_wp2
         go_roundw
         case rel => exact ⟨i + 1, by rw [HST.out, if_pos ⟨hkn, trivial⟩], by go_num, hr1, hBn⟩
         case measure => simp [intOf] <;> omega
     · clear hends
       go_wp2
       go_roundw
       case rel => exact ⟨i + 1, by rw [HST.out, if_neg (fun h => hkn h.1)]; simp, by go_num, hr1, hB⟩
       case measure => simp [intOf] <;> omega
   · have HE := hide (HN.out i hi hgo)
     clear hends
     by_cases g1 : (i : Int) ≤ f
     · have g2 : ¬ ((i : Int) ≤ (xs.length : Int)) := fun h => hgo ⟨g1, by omega⟩
       clear hgo
       go_wp2
       go_ret
       exact ⟨by rw [HE.out]; rfl, hBw⟩
     · clear hgo
       go_wp2
       go_ret
       exact ⟨by rw [HE.out]; rfl, hBw⟩
set_option maxRecDepth 100000 in
set_option maxHeartbeats 8000000 in
theorem all38 (t : T) (hF : InT t) (hps : (E.pre t t).length ≤ 1000000) (d : ND) {ao : Option Addr} {cap : Nat} {xs : List Int} (hn : xs.length ≤ 60) (w : World) (hx : RdC32 w ao xs) (hT : TR w (fun _ => True) t d.v) :
   Calls Tryz.prog 38 #[d.v, .slice ao xs.length cap] w fun e W => U.Told (AllP t xs) e ∧ Below w.heap.size w W := by
 have b1 := al1 w (.cells #[.int .i64 d.k, .int .i64 d.a, .slice d.sp d.sl d.sc, .string d.n, .slice d.kp d.kl d.kc] 26)
 have n1 := heap_alloc_new w (.cells #[.int .i64 d.k, .int .i64 d.a, .slice d.sp d.sl d.sc, .string d.n, .slice d.kp d.kl d.kc] 26)
 have s1 : (w.alloc (.cells #[.int .i64 d.k, .int .i64 d.a, .slice d.sp d.sl d.sc, .string d.n, .slice d.kp d.kl d.kc] 26)).heap.size = w.heap.size + 1 := by simp
 obtain ⟨X, hX⟩ : ∃ X, w.alloc (.cells #[.int .i64 d.k, .int .i64 d.a, .slice d.sp d.sl d.sc, .string d.n, .slice d.kp d.kl d.kc] 26) = X := ⟨_, rfl⟩
 rw [hX] at b1 n1 s1
 have hcall := ends35 t hF hps d 0 (ao := ao) (cap := cap) hn X (hx.later b1) (TR.later (fun k hk => b1.block k hk) _ hT)
 have hlt := rE_lt t xs 0
 have hAl : (rE t xs 0).testBit xs.length = true ↔ AllP t xs := by
   by_cases hP : E.PlainP t
   · rw [rE_yes ⟨by omega, by omega, hP⟩]
     have := all_eq (xs := xs) (E.kd_of t hP.vp)
     exact ⟨fun h => ⟨hP, this.1 h⟩, fun h => this.2 h.2⟩
   · rw [rE_no (fun h => hP h.2.2)]
     simp only [Nat.zero_testBit]
     exact ⟨fun h => (by cases h), fun h => absurd h.1 hP⟩
 obtain ⟨m, hm⟩ : ∃ m, rE t xs 0 = m := ⟨_, rfl⟩
 rw [hm] at hcall hlt hAl
 have hm64 : m < 2 ^ 64 := Nat.lt_of_lt_of_le hlt (Nat.pow_le_pow_right (by decide) (by omega))
 obtain ⟨q, han, hbt⟩ := bit_u64 m xs.length hm64
 have hcv := cv_u64 (i := xs.length) (by omega)
 have hk64 : (xs.length : Int) ≤ 64 := by omega
 obtain ⟨q0, q1, q2, q3, q4⟩ := cells_five n1
 unfold ND.v at hcall ⊢
 have HA := hide hAl
 obtain ⟨b, hb⟩ : ∃ b, m.testBit xs.length = b := ⟨_, rfl⟩
 rw [hb] at hbt HA
 clear hT hx hAl hb hm
 go_enter Tryz.func38, Tryz.ntmps38
 go_wp2_with fail
 refine hcall.mono ?_
 rintro e W1 ⟨rfl, hb1⟩
 have B1 := nx b1 hb1
 clear hcall hb1 q0 q1 q2 q3 q4
 go_wp2
 go_ret
 exact ⟨⟨b, rfl, HA.out⟩, B1⟩
end Go.Proofs.YtemanednddhfaaaGreatDoor
namespace Go.Proofs.YtemanednddhfaaaGreatDoor
open Go.RowKit Go.Shelf
open E (T isS)
attribute [local go_sem] Oper.semAt_some
def lightC (s : List UInt8) : Bool := match X.scan 0 s with | .ok l => l.all fun x => !(decide (x.1.kind = 5)) && (!(isS x [91]) && !(isS x [46])) | .error _ => true
theorem light_of {s : List UInt8} (h : lightC s = true) : ∀ l, X.scan 0 s = .ok l → ∀ x ∈ l, x.1.kind ≠ 5 ∧ isS x [91] = false ∧ isS x [46] = false := by
 intro l hl x hx
 unfold lightC at h
 rw [hl] at h
 have := List.all_eq_true.1 h x hx
 simpa using this
theorem AnsP.ok {t : T} {w w' : World} {e : Ending} (h : AnsP (.ok t) w e w') : Below w.heap.size w w' ∧ ∃ d : ND, e = .returned (.tuple #[d.v, .int .i64 0, .int .i64 0]) ∧ TR w' (fun _ => True) t d.v := by
 obtain ⟨hb, ⟨t', v, h1, h2, h3⟩ | ⟨c, k, h1, _⟩⟩ := h
 · cases h1
   have h4 := TR.mono (ok' := fun _ => True) (fun _ _ _ => trivial) t h3
   obtain ⟨d, rfl, _⟩ := h4.nd
   exact ⟨hb, d, h2, h4⟩
 · cases h1
theorem rdc_new (w : World) (xs : List Int) : RdC32 (w.alloc (.cells ⟨xs.map (Value.int .i32)⟩ 21)) (some ⟨w.heap.size, 0, none⟩) xs := fun i hi => ⟨_, _, rfl, by
 have := heap_alloc_new w (.cells ⟨xs.map (Value.int .i32)⟩ 21)
 simp only [World.cell?, this, Nat.zero_add]
 simp [hi]⟩
end Go.Proofs.YtemanednddhfaaaGreatDoor
namespace Go.Proofs.YtemanednddhfaaaGreatDoor
open Go.RowKit Go.Shelf
open E (Ps Rx T rxOf Vp)
attribute [local go_sem] Oper.semAt_some
def tA : T := .mk 1 0 [(97,97)] [] []
def tS : T := .mk 6 0 [] [] [tA]
theorem parse8 : E.parse [39, 97, 42] = .ok tS := by rfl
theorem pre8 : E.pre tS tS = [(tS, tS), (tA, tA)] := by
 simp [tS, tA, E.pre, E.preK, T.kids]
theorem isp8 : E.IsP tS := by
 unfold E.IsP
 rw [pre8]
 refine ⟨by simp, fun p hp => ?_⟩
 simp only [List.mem_cons, List.not_mem_nil, or_false] at hp
 have c1 : U.S.Canon [((97 : Int), (97 : Int))] := U.S.canon_one (by decide)
 rcases hp with rfl | rfl
 · exact ⟨rfl, .inr (.inr ⟨by decide, by decide, rfl, rfl⟩)⟩
 · exact ⟨rfl, .inl ⟨rfl, rfl, by decide, c1⟩⟩
theorem plain8 : E.PlainP tS := ⟨isp8, by rw [pre8]; rfl⟩
theorem nodeB8 : ∀ p ∈ E.pre tS tS, E.NodeB p.1 := by
 rw [pre8]
 intro p hp
 simp only [List.mem_cons, List.not_mem_nil, or_false] at hp
 rcases hp with rfl | rfl <;> simp [E.NodeB, tS, tA, T.set, T.name, T.kids]
theorem ends8 {zs : List Int} (h : EndP tS [97, 97, 98] 0 zs) : zs = [0, 1, 2] := by
 rcases h with ⟨_, rfl⟩ | ⟨h, _⟩
 · decide
 · exact absurd ⟨by decide, by decide, plain8⟩ h
theorem begs8 {zs : List Int} (h : BegP tS [97, 97] 2 zs) : zs = [0, 1, 2] := by
 rcases h with ⟨_, rfl⟩ | ⟨h, _⟩
 · decide
 · exact absurd ⟨by decide, by decide, plain8⟩ h
theorem all8n : AllP tS [] := ⟨plain8, (hit_iff [] (rxOf tS) 0 (by decide)).1 (by decide)⟩
theorem all8b : ¬ AllP tS [98] := fun h => by
 have := (hit_iff [98] (rxOf tS) 1 (by decide)).2 h.2
 revert this
 decide
theorem three_row {w : World} {B : Nat} {v : Value} (h : OwnI w B v [0, 1, 2]) : ∃ g cap, v = .slice (some ⟨g, 0, none⟩) 3 cap ∧ w.cell? ⟨g, 0, none⟩ = some (.int .i64 0) ∧ w.cell? ⟨g, 2, none⟩ = some (.int .i64 2) := by
 obtain ⟨g, cap, rfl, _, _, _, _, _, hH⟩ := Lib.holds_of_ownsRow h (by rintro rfl; obtain ⟨_, ⟨_, h⟩ | ⟨_, _, _, e, _⟩⟩ := h; cases h; cases e)
 have h0 := hH 0 (by decide)
 have h2 := hH 2 (by decide)
 exact ⟨g, cap, rfl, by simpa using h0.1, by simpa using h2.1⟩
set_option maxRecDepth 100000 in
set_option maxHeartbeats 4000000 in
theorem known8_any (w : World) (ht : Tabs w) : Calls Tryz.prog 28 #[] w fun e w' => e = .returned (.bool true) ∧ Below w.heap.size w w' := by
 have h1 := parse_light ⟨#[39, 97, 42]⟩ (by decide) (light_of (by kernel_rfl)) w ht
 rw [show E.parse (bts ⟨#[39, 97, 42]⟩) = _ from parse8] at h1
 have hps : (E.pre tS tS).length ≤ 1000000 := by rw [pre8]; decide
 go_enter Tryz.func28, Tryz.ntmps28
 go_wp2_with fail
 refine h1.mono ?_
 intro e w1 ha
 obtain ⟨hb1, d, rfl, htr⟩ := ha.ok
 clear h1 ha
 have hc := fun (W : World) (hb : Below w1.heap.size w1 W) => (⟨ht.later (nx hb1 hb), TR.later (fun k hk => Below.block hb k hk) _ htr⟩ : Tabs W ∧ TR W (fun _ => True) tS d.v)
 have b0 := al1 w1 (.cells #[.int .i64 d.k, .int .i64 d.a, .slice d.sp d.sl d.sc, .string d.n, .slice d.kp d.kl d.kc] 26)
 have n0 := heap_alloc_new w1 (.cells #[.int .i64 d.k, .int .i64 d.a, .slice d.sp d.sl d.sc, .string d.n, .slice d.kp d.kl d.kc] 26)
 have s0 : (w1.alloc (.cells #[.int .i64 d.k, .int .i64 d.a, .slice d.sp d.sl d.sc, .string d.n, .slice d.kp d.kl d.kc] 26)).heap.size = w1.heap.size + 1 := by simp
 have b1 := al1 (w1.alloc (.cells #[.int .i64 d.k, .int .i64 d.a, .slice d.sp d.sl d.sc, .string d.n, .slice d.kp d.kl d.kc] 26)) (.cells #[.int .i32 97, .int .i32 97, .int .i32 98] 21)
 have r1 := rdc_new (w1.alloc (.cells #[.int .i64 d.k, .int .i64 d.a, .slice d.sp d.sl d.sc, .string d.n, .slice d.kp d.kl d.kc] 26)) [97, 97, 98]
 rw [s0] at r1
 have bA := nx b0 b1
 have hcall := endsM_any tS d _ (hc _ bA).1 (hc _ bA).2 hps nodeB8 (some ⟨w1.heap.size + 1, 0, none⟩) 3 [97, 97, 98] r1 (by decide) (by decide) 0
 have xA := (b1.block w1.heap.size (by simp)).trans n0
 have sA : ((w1.alloc (.cells #[.int .i64 d.k, .int .i64 d.a, .slice d.sp d.sl d.sc, .string d.n, .slice d.kp d.kl d.kc] 26)).alloc (.cells #[.int .i32 97, .int .i32 97, .int .i32 98] 21)).heap.size = w1.heap.size + 2 := by simp
 rw [show ([97, 97, 98] : List Int).length = 3 from rfl] at hcall
 unfold ND.v at hcall ⊢
 clear r1 n0 b0 b1 s0
 go_wp2_with fail
 refine hcall.mono ?_
 rintro e W2 ⟨⟨v, zs, rfl, ho, he⟩, hb2⟩
 have hz := ends8 he
 subst hz
 obtain ⟨g, cap, rfl, c0, c2⟩ := three_row ho
 have B2 := nx bA hb2
 have x2 := (hb2.block w1.heap.size (by omega)).trans xA
 have z2 := hb2.size
 rw [sA] at z2
 clear hcall he ho xA bA hb2 sA
 have hcall := allM_any tS d W2 (hc _ B2).1 (hc _ B2).2 hps nodeB8 none 0 [] (fun i hi => by simp at hi) (by simp)
 rw [List.length_nil] at hcall
 unfold ND.v at hcall
 obtain ⟨q0, q1, q2, q3, q4⟩ := cells_five x2
 go_wp2_with fail
 refine hcall.mono ?_
 rintro e W3 ⟨⟨b, rfl, hb⟩, hb3⟩
 have hbt := hb.2 all8n
 subst hbt
 have B3 := nx B2 hb3
 have x3 := (hb3.block w1.heap.size (by omega)).trans x2
 have z3 : w1.heap.size + 2 ≤ W3.heap.size := Nat.le_trans z2 hb3.size
 clear hcall hb hb3 x2 q0 q1 q2 q3 q4 c0 c2
 have b4 := al1 W3 (.cells #[.int .i32 98] 21)
 have B3a := nx B3 b4
 have hcall := allM_any tS d _ (hc _ B3a).1 (hc _ B3a).2 hps nodeB8 (some ⟨W3.heap.size, 0, none⟩) 1 [98] (rdc_new W3 [98]) (by decide)
 rw [show ([98] : List Int).length = 1 from rfl] at hcall
 have x3a := (b4.block w1.heap.size (by omega)).trans x3
 have s4 : (W3.alloc (.cells #[.int .i32 98] 21)).heap.size = W3.heap.size + 1 := by simp
 unfold ND.v at hcall
 obtain ⟨q0, q1, q2, q3, q4⟩ := cells_five x3
 clear b4 x3
 go_wp2_with fail
 refine hcall.mono ?_
 rintro e W4 ⟨⟨b, rfl, hb⟩, hb4⟩
 have hbt : b = false := by
   cases b with
   | false => rfl
   | true => exact absurd (hb.1 rfl) all8b
 subst hbt
 have B4 := nx B3a hb4
 have x4 := (hb4.block w1.heap.size (by omega)).trans x3a
 have z4 : w1.heap.size + 2 ≤ W4.heap.size := by have := hb4.size; omega
 clear hcall hb hb4 x3a q0 q1 q2 q3 q4 s4 B3a
 have hcall := nullM_any tS d W4 (hc _ B4).1 (hc _ B4).2 hps nodeB8
 unfold ND.v at hcall
 obtain ⟨q0, q1, q2, q3, q4⟩ := cells_five x4
 go_wp2_with fail
 refine hcall.mono ?_
 rintro e W5 ⟨⟨b, rfl, hb⟩, hb5⟩
 have hbt := hb.2 all8n
 subst hbt
 have B5 := nx B4 hb5
 have x5 := (hb5.block w1.heap.size (by omega)).trans x4
 have z5 : w1.heap.size + 2 ≤ W5.heap.size := Nat.le_trans z4 hb5.size
 clear hcall hb hb5 x4 q0 q1 q2 q3 q4
 have b6 := al1 W5 (.cells #[.int .i32 97, .int .i32 97] 21)
 have B5a := nx B5 b6
 have hcall := begsM_any tS d _ (hc _ B5a).1 (hc _ B5a).2 hps nodeB8 (some ⟨W5.heap.size, 0, none⟩) 2 [97, 97] (rdc_new W5 [97, 97]) (by decide) (by decide) 2
 rw [show ([97, 97] : List Int).length = 2 from rfl] at hcall
 unfold ND.v at hcall
 obtain ⟨q0, q1, q2, q3, q4⟩ := cells_five x5
 go_wp2_with fail
 refine hcall.mono ?_
 rintro e W6 ⟨⟨v, zs, rfl, ho, he⟩, hb6⟩
 have hz := begs8 he
 subst hz
 obtain ⟨g', cap', rfl, _, _⟩ := three_row ho
 have B6 := nx hb1 (nx B5a hb6)
 clear hcall ho he hb6 q0 q1 q2 q3 q4 x5
 go_wp2
 go_ret
 exact ⟨rfl, B6⟩
end Go.Proofs.YtemanednddhfaaaGreatDoor
