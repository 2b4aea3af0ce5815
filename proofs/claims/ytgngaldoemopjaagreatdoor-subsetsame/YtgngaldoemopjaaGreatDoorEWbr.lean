/- Joined: Ssp Sse Wbt Wbr. -/
import Derived.Test.YtgngaldoemopjaaGreatDoorESbl
import Derived.BigRegion
import Derived.Test.YtgngaldoemopjaaGreatDoorRows
import Derived.Test.YtgngaldoemopjaaGreatDoorEJE
import Derived.Test.YtgngaldoemopjaaGreatDoorEPlb
import Derived.ProofKit
import Derived.LaidMore
import Derived.Lay
import Derived.OpenShut
import Derived.Stop.Joined
import Derived.Lib.LaidU8T
import Derived.Lib.LaidTab
import Derived.Test.YtgngaldoemopjaaGreatDoorEUOrd
namespace Go.Proofs.YtgngaldoemopjaaGreatDoor
open Go.RowKit Go.Shelf
open E (T isS)
attribute [local go_sem] Oper.semAt_some
namespace SB
noncomputable def ofI (ls : List U.L3) (r : Int) : Int := if 0 ≤ r ∧ r ≤ 1114111 then ((U.msOf (pcs ls)).idxOf (U.msk (U.TOf ls) r ls.length) : Int) else -1
theorem and_stp {a : PA.Au} {ls : List U.L3} (hls : ls.map (·.2.2) = a.pl.map (·.1)) (m : Nat) (r : Int) : PA.behind a m &&& (U.msk (U.TOf ls) r ls.length % 2 ^ a.pl.length) = PA.stp a m r := by
 have hlen : ls.length = a.pl.length := by have := congrArg List.length hls; simpa using this
 have hT : U.TOf ls = a.pl.map (·.1) := hls
 refine Nat.eq_of_testBit_eq fun j => ?_
 unfold PA.stp
 rw [PA.orL_bit, Nat.zero_testBit, Bool.false_or, Nat.testBit_and, Nat.testBit_mod_two_pow, U.mk_bit, hlen, hT]
 by_cases hj : j < a.pl.length
 · have hB : U.S.hB ((a.pl.map (·.1)).getD j []) r = PA.hasB a r j := by
     unfold PA.hasB U.S.hB
     rw [List.getD_eq_getElem?_getD, List.getElem?_map, List.getElem?_eq_getElem hj]
     rfl
   rw [hB, decide_eq_true hj, Bool.true_and, Bool.true_and]
   rw [Bool.eq_iff_iff, List.any_eq_true]
   constructor
   · intro h
     exact ⟨j, List.mem_range.2 hj, by rw [if_pos h, Nat.testBit_two_pow_self]⟩
   · rintro ⟨i, _, h⟩
     split at h
     · rw [Nat.testBit_two_pow, decide_eq_true_eq] at h
       subst h
       assumption
     · simp at h
 · rw [decide_eq_false hj, Bool.false_and, Bool.and_false, eq_comm, List.any_eq_false]
   intro i hi
   have := List.mem_range.1 hi
   split
   · rw [Nat.testBit_two_pow]
     simp
     omega
   · simp
theorem stp_bad {a : PA.Au} {m : Nat} {r : Int} (h : ¬ (0 ≤ r ∧ r ≤ 1114111)) : PA.stp a m r = 0 := by
 refine Nat.eq_of_testBit_eq fun j => ?_
 unfold PA.stp
 rw [PA.orL_bit, Nat.zero_testBit, Bool.false_or, List.any_eq_false]
 intro i _
 have : PA.hasB a r i = false := by
   unfold PA.hasB
   cases a.pl[i]? with
   | none => rfl
   | some p =>
     show U.S.hasB (U.S.goods p.1) r = false
     cases hb : U.S.hasB (U.S.goods p.1) r with
     | false => rfl
     | true => exact absurd (U.S.hs_bounds ((U.S.hasB_iff _ _).1 hb)) h
 rw [this, Bool.and_false, if_neg (by decide)]
 simp
noncomputable def NX (a : PA.Au) (ls : List U.L3) (L : List Nat) (s r : Int) : Int := nxI a (U.msOf (pcs ls)) L s (ofI ls r)
structure SameF (a : PA.Au) (ls : List U.L3) (L : List Nat) : Prop where
 hd : L.getD 0 0 = PA.bg
 k0 : 0 < L.length
 k1 : L.length ≤ 128
 m64 : ∀ s, L.getD s 0 < 2 ^ 64
 go : ∀ s < L.length, ∀ r : Int, 0 ≤ r ∧ r ≤ 1114111 → ∃ s', s' < L.length ∧ NX a ls L (s : Int) r = (s' : Int) ∧ L.getD s' 0 = PA.stp a (L.getD s 0) r
theorem same_of {a : PA.Au} {ls : List U.L3} {k : Nat} (hg : PA.Good a) (hls : ls.map (·.2.2) = a.pl.map (·.1)) (hk : (gr (PA.behind a) (fsOf a (U.msOf (pcs ls))) k).length = k) (hj : ∀ j < k, j < (gr (PA.behind a) (fsOf a (U.msOf (pcs ls))) j).length) (hk1 : k ≤ 128) :
   SameF a ls (gr (PA.behind a) (fsOf a (U.msOf (pcs ls))) k) := by
 have hl60 := hg.len
 have hlen : ls.length = a.pl.length := by have := congrArg List.length hls; simpa using this
 have hgd : ∀ s (h : s < k), (gr (PA.behind a) (fsOf a (U.msOf (pcs ls))) k).getD s 0 = (gr (PA.behind a) (fsOf a (U.msOf (pcs ls))) k)[s]'(by omega) := fun s h => by rw [List.getD_eq_getElem?_getD, List.getElem?_eq_getElem (by omega)]; rfl
 have hpos := gr_pos (PA.behind a) (fsOf a (U.msOf (pcs ls))) k
 have hst : ∀ j, j < k → ∀ f ∈ fsOf a (U.msOf (pcs ls)), PA.behind a ((gr (PA.behind a) (fsOf a (U.msOf (pcs ls))) k).getD j 0) &&& f ∈ gr (PA.behind a) (fsOf a (U.msOf (pcs ls))) k := fun j h f hf => by rw [hgd j h]; exact gr_step hj hk h hf
 have hcov := U.pieces_cov ls (by omega)
 have hhd : (gr (PA.behind a) (fsOf a (U.msOf (pcs ls))) k).getD 0 0 = PA.bg := by rw [hgd 0 (by omega)]; exact gr_head _ _ _ hpos
 have hm64 : ∀ s, (gr (PA.behind a) (fsOf a (U.msOf (pcs ls))) k).getD s 0 < 2 ^ 64 := fun s => by
   by_cases h : s < k
   · rw [hgd s h]
     rcases gr_ok a (U.msOf (pcs ls)) k _ (List.getElem_mem (show s < (gr (PA.behind a) (fsOf a (U.msOf (pcs ls))) k).length by omega)) with e | e
     · rw [e]; decide
     · exact Nat.lt_of_lt_of_le e (Nat.pow_le_pow_right (by decide) (by omega))
   · rw [List.getD_eq_getElem?_getD, List.getElem?_eq_none (by omega)]; decide
 clear hgd hj
 generalize gr (PA.behind a) (fsOf a (U.msOf (pcs ls))) k = L at hk hpos hst hhd hm64
 refine ⟨hhd, hpos, by omega, hm64, fun s hs r hr => ?_⟩
 have hmem : U.msk (U.TOf ls) r ls.length ∈ U.msOf (pcs ls) := (U.cov_ms hcov _).2 ⟨r, hr.1, hr.2, rfl⟩
 obtain ⟨c, hc⟩ : ∃ c, (U.msOf (pcs ls)).idxOf (U.msk (U.TOf ls) r ls.length) = c := ⟨_, rfl⟩
 have hcl : c < (U.msOf (pcs ls)).length := by rw [← hc]; exact List.idxOf_lt_length_of_mem hmem
 have hce : (U.msOf (pcs ls))[c] = U.msk (U.TOf ls) r ls.length := by
   have := List.getElem_idxOf (List.idxOf_lt_length_of_mem hmem)
   simp only [hc] at this
   exact this
 have hcd : (U.msOf (pcs ls)).getD c 0 = U.msk (U.TOf ls) r ls.length := by rw [List.getD_eq_getElem?_getD, List.getElem?_eq_getElem hcl]; exact hce
 have hin : inL L (s : Int) = true := by unfold inL; simp; omega
 have hstp := and_stp hls (L.getD s 0) r
 have hmL : PA.stp a (L.getD s 0) r ∈ L := by
   rw [← hstp]
   refine hst s (by omega) _ ?_
   unfold fsOf
   exact List.mem_map_of_mem (f := fun x => x % 2 ^ a.pl.length) hmem
 refine ⟨L.idxOf (PA.stp a (L.getD s 0) r), List.idxOf_lt_length_of_mem hmL, ?_, ?_⟩
 · unfold NX ofI
   rw [if_pos hr, hc]
   unfold nxI
   rw [if_pos ⟨hin, by omega, by omega⟩, Int.toNat_natCast, Int.toNat_natCast, hcd, hstp]
 · have hlt := List.idxOf_lt_length_of_mem hmL
   rw [List.getD_eq_getElem?_getD, List.getElem?_eq_getElem hlt]
   exact List.getElem_idxOf hlt
section
variable {a : PA.Au} {ls : List U.L3} {L : List Nat}
theorem nx_neg (r : Int) : NX a ls L (-1) r = -1 := by
 unfold NX nxI inL
 rw [if_neg (by simp)]
theorem nx_bad (s : Int) {r : Int} (h : ¬ (0 ≤ r ∧ r ≤ 1114111)) : NX a ls L s r = -1 := by
 unfold NX ofI
 rw [if_neg h]
 unfold nxI
 rw [if_neg (by omega)]
theorem fold_neg : ∀ xs : List Int, xs.foldl (NX a ls L) (-1) = -1
 | [] => rfl
 | r :: xs => by rw [List.foldl_cons, nx_neg]; exact fold_neg xs
theorem acI_neg : acI a L (-1) = false := by unfold acI inL; simp
theorem acI_at {s : Nat} (h : s < L.length) : acI a L (s : Int) = PA.acc a (L.getD s 0) := by
 have hin : inL L (s : Int) = true := by unfold inL; simp; omega
 unfold acI
 rw [hin, Bool.true_and, Int.toNat_natCast]
theorem same_all (hF : SameF a ls L) : ∀ (xs : List Int) (s : Nat), s < L.length → acI a L (xs.foldl (NX a ls L) (s : Int)) = PA.acc a (xs.foldl (fun s r => PA.stp a s r) (L.getD s 0))
 | [], s, hs => acI_at hs
 | r :: xs, s, hs => by
   rw [List.foldl_cons, List.foldl_cons]
   by_cases hr : 0 ≤ r ∧ r ≤ 1114111
   · obtain ⟨s', h1, h2, h3⟩ := hF.go s hs r hr
     rw [h2, ← h3]
     exact same_all hF xs s' h1
   · rw [nx_bad _ hr, fold_neg, acI_neg, stp_bad hr, PA.fold_zero, PA.acc_zero]
theorem same_allB (hF : SameF a ls L) (xs : List Int) : acI a L (xs.foldl (NX a ls L) 0) = PA.allB a xs := by
 have := same_all hF xs 0 hF.k0
 rw [hF.hd] at this
 exact this
theorem all_bad {xs : List Int} {i : Nat} (hi : i < xs.length) (h : ¬ (0 ≤ xs[i] ∧ xs[i] ≤ 1114111)) : PA.allB a xs = false := by
 unfold PA.allB
 rw [← List.take_append_drop i xs, List.foldl_append, List.drop_eq_getElem_cons hi, List.foldl_cons, stp_bad h, PA.fold_zero, PA.acc_zero]
end
end SB
section
variable {W : World} {D : Nat} {a : PA.Au} {ls : List U.L3} {L : List Nat}
set_option maxRecDepth 100000 in
set_option maxHeartbeats 1000000 in
theorem dclassL_any (h : DAt W D a (U.msOf (pcs ls)) (U.psOf (U.msOf (pcs ls)) (pcs ls)) L) (hl : ls.length ≤ 64) (hpl : (U.psOf (U.msOf (pcs ls)) (pcs ls)).length ≤ 10000000) (r : Int) : Calls Tryz.prog 18 #[.pointer (some ⟨D, 0, none⟩), .int .i32 r] W fun e w' => e = .returned (.int .i64 (SB.ofI ls r)) ∧ Below W.heap.size W w' := by
 obtain ⟨sets, so, sc, hc, _, _⟩ := h
 have hcov := U.pieces_cov ls hl
 have ho := U.cof_any hc hpl (U.cov_rise hcov) r
 have HV := hide (fun q hq => U.cov_of hcov (r := r) (q := q) hq)
 clear hc hcov hpl
 go_enter Tryz.func18, Tryz.ntmps18
 go_wp2_with fail
 refine ho.mono ?_
 rintro e w1 ⟨q, rfl, hb, hq⟩
 have HE : Hid (SB.ofI ls r = q) := hide (HV.out q hq).symm
 clear ho hq HV
 go_wp2
 go_ret
 exact ⟨by rw [HE.out]; rfl, hb⟩
set_option maxRecDepth 100000 in
set_option maxHeartbeats 1000000 in
theorem dstepL_any (h : DAt W D a (U.msOf (pcs ls)) (U.psOf (U.msOf (pcs ls)) (pcs ls)) L) (hl : ls.length ≤ 64) (hpl : (U.psOf (U.msOf (pcs ls)) (pcs ls)).length ≤ 10000000) (s r : Int) : Calls Tryz.prog 17 #[.pointer (some ⟨D, 0, none⟩), .int .i64 s, .int .i32 r] W fun e w' => e = .returned (.int .i64 (SB.NX a ls L s r)) ∧ Below W.heap.size W w' := by
 have h1 := dclassL_any h hl hpl r
 have h2 := fun W' hb => dnext_any (h.later (W' := W') hb) s (SB.ofI ls r)
 have HN : Hid (SB.NX a ls L s r = SB.nxI a (U.msOf (pcs ls)) L s (SB.ofI ls r)) := hide rfl
 generalize SB.ofI ls r = c at *
 clear h hpl
 go_enter Tryz.func17, Tryz.ntmps17
 go_wp2_with fail
 refine h1.mono ?_
 rintro e w1 ⟨rfl, hb⟩
 have h3 := h2 w1 hb
 obtain ⟨x, hx⟩ : ∃ x, SB.nxI a (U.msOf (pcs ls)) L s c = x := ⟨_, rfl⟩
 rw [hx] at h3
 have HX := hide hx
 clear hx
 clear h1 h2
 go_wp2_with fail
 refine h3.mono ?_
 rintro e w2 ⟨rfl, rfl⟩
 clear h3
 go_wp2
 go_ret
 exact ⟨by rw [HN.out, HX.out]; rfl, hb⟩
set_option maxRecDepth 100000 in
set_option maxHeartbeats 2000000 in
theorem sall_any (h : DAt W D a (U.msOf (pcs ls)) (U.psOf (U.msOf (pcs ls)) (pcs ls)) L) (hF : SB.SameF a ls L) (hl : ls.length ≤ 64) (hpl : (U.psOf (U.msOf (pcs ls)) (pcs ls)).length ≤ 10000000) (ao : Option Addr) (cap : Nat) (xs : List Int) (hx : RdC32 W ao xs) (hlen : xs.length ≤ 1000000) :
   Calls Tryz.prog 20 #[.pointer (some ⟨D, 0, none⟩), .slice ao xs.length cap] W fun e w' => e = .returned (.bool (PA.allB a xs)) ∧ Below W.heap.size W w' := by
 have es := elemSize39
 have hst := fun (W' : World) (hb : Below W.heap.size W W') (s r : Int) => dstepL_any (h.later hb) hl hpl s r
 have hac := fun (W' : World) (hb : Below W.heap.size W W') (s : Int) => dacc_any (h.later hb) s
 have HA := hide (SB.same_allB hF xs)
 clear h hF hl hpl
 go_enter Tryz.func20, Tryz.ntmps20
 go_wp2
 go_loopw [5, 10] (fun p u wr => ∃ (s : Int) (i : Nat), p = .int .i64 s ∧ u = .int .i64 (i : Int) ∧ i ≤ xs.length ∧ Hid (s = (xs.take i).foldl (SB.NX a ls L) 0) ∧ Below W.heap.size W wr) (fun _ u _ => xs.length - (intOf u).toNat)
 case atStart => exact ⟨0, 0, rfl, rfl, Nat.zero_le _, hide rfl, Below.refl _ _⟩
 case round =>
   obtain ⟨s, i, rfl, rfl, hi, HS, hB⟩ := hrel
   by_cases hlti : i < xs.length
   · obtain ⟨b, off, rfl, hc⟩ := hx.later hB i hlti
     have HS2 : Hid (SB.NX a ls L s xs[i] = (xs.take (i + 1)).foldl (SB.NX a ls L) 0) := hide (by rw [List.take_succ_eq_append_getElem hlti, List.foldl_append, ← HS.out]; rfl)
     have hcall := hst wr hB s xs[i]
     generalize xs[i] = r at *
     generalize SB.NX a ls L s r = s2 at *
     clear hst hac hx HS
     go_wp2_with fail
     refine hcall.mono ?_
     rintro e W2 ⟨rfl, hb2⟩
     have B2 := nx hB hb2
     clear hcall hb2 hc hB
     go_wp2
     exact ⟨⟨s2, i + 1, rfl, by go_num, by omega, HS2, B2⟩, by simp [intOf]; omega⟩
   · obtain rfl : i = xs.length := by omega
     have hcall := hac wr hB s
     have HE : Hid (SB.acI a L s = PA.allB a xs) := hide (by
       have h1 := HS.out
       rw [List.take_length] at h1
       rw [h1]; exact HA.out)
     generalize SB.acI a L s = b at *
     clear hst hac hx HS
     go_wp2_with fail
     refine hcall.mono ?_
     rintro e W2 ⟨rfl, rfl⟩
     go_wp2
     go_ret
     exact ⟨by rw [HE.out] <;> rfl, hB⟩
end
end Go.Proofs.YtgngaldoemopjaaGreatDoor
namespace Go.Proofs.YtgngaldoemopjaaGreatDoor
open Go.RowKit Go.Shelf
open E (T isS)
attribute [local go_sem] Oper.semAt_some
theorem cell_keep {w w' : World} {b j : Nat} {v : Value} {n : Nat} (hb : Below n w w') (h : w.cell? ⟨b, j, none⟩ = some v) (hn : b < n) : w'.cell? ⟨b, j, none⟩ = some v := (World.cell?_of_block (w := w) (a := ⟨b, j, none⟩) (hb.block b hn)).trans h
theorem blD (w : World) : Below w.heap.size w w.drew := ⟨rfl, rfl, rfl, Nat.le_refl _, fun _ _ => rfl⟩
theorem RdC32.lt {w : World} {ao : Option Addr} {xs : List Int} (h : RdC32 w ao xs) {i : Nat} (hi : i < xs.length) : ∃ b off, ao = some ⟨b, off, none⟩ ∧ w.cell? ⟨b, off + i, none⟩ = some (.int .i32 xs[i]) ∧ b < w.heap.size := by
 obtain ⟨b, off, e, hc⟩ := h i hi
 refine ⟨b, off, e, hc, Nat.lt_of_not_le fun hn => ?_⟩
 simp [World.cell?, Array.getElem?_eq_none hn] at hc
set_option maxRecDepth 100000 in
set_option maxHeartbeats 8000000 in
theorem ssame_any (t : T) (hF : InT t) (d : ND) (ao : Option Addr) (ca : Nat) (xs : List Int) (w : World) (ht : Tabs w) (hd : Deb w) (hT : TR w (fun _ => True) t d.v) (hx : RdC32 w ao xs) : Calls Tryz.prog 5 #[d.v, .slice ao xs.length ca] w fun e w' => e = .returned (.bool true) ∧ Below w.heap.size w w' := by
 have es := elemSize39
 have b1 := al1 w (.cells #[.int .i64 d.k, .int .i64 d.a, .slice d.sp d.sl d.sc, .string d.n, .slice d.kp d.kl d.kc] 25)
 have n1 := heap_alloc_new w (.cells #[.int .i64 d.k, .int .i64 d.a, .slice d.sp d.sl d.sc, .string d.n, .slice d.kp d.kl d.kc] 25)
 have s1 : (w.alloc (.cells #[.int .i64 d.k, .int .i64 d.a, .slice d.sp d.sl d.sc, .string d.n, .slice d.kp d.kl d.kc] 25)).heap.size = w.heap.size + 1 := by simp
 obtain ⟨X, hX⟩ : ∃ X, w.alloc (.cells #[.int .i64 d.k, .int .i64 d.a, .slice d.sp d.sl d.sc, .string d.n, .slice d.kp d.kl d.kc] 25) = X := ⟨_, rfl⟩
 rw [hX] at b1 n1 s1
 have HLAT := hide (fun W (hb : Below w.heap.size w W) => (⟨ht.later hb, hd.later hb, TR.later (fun k hk => hb.block k hk) _ hT, hx.later hb⟩ : Tabs W ∧ Deb W ∧ TR W (fun _ => True) t d.v ∧ RdC32 W ao xs))
 have hk := known14_any X (HLAT.out X b1).1 (HLAT.out X b1).2.1
 clear ht hd hT hx
 unfold ND.v
 go_enter Tryz.func5, Tryz.ntmps5
 go_wp2_with fail
 refine hk.mono ?_
 rintro e W1 ⟨rfl, hb1⟩
 have B1 := nx b1 hb1
 have m1 := (hb1.block _ (by omega)).trans n1
 have hc := count_any t hF d W1 200 (by decide) (HLAT.out W1 B1).2.2.1
 have z1 : w.heap.size + 1 ≤ W1.heap.size := by have := hb1.size; omega
 obtain ⟨q0, q1, q2, q3, q4⟩ := cells_five m1
 have HSZ : Hid (sz t = (E.pre t t).length) := rfl
 obtain ⟨sc, hsc⟩ : ∃ sc, min (sz t) (200 + 1) = sc := ⟨_, rfl⟩
 rw [hsc] at hc
 have HSC := hide hsc
 have hle : sc ≤ 201 := by omega
 unfold ND.v at hc
 rw [show ((200 : Nat) : Int) = 200 from rfl] at hc
 clear hk hb1 n1 s1 hX hsc b1
 go_wp2_with fail
 refine hc.mono ?_
 rintro e W2 ⟨rfl, hb2⟩
 have B2 := nx B1 hb2
 have m2 := (hb2.block _ (by omega)).trans m1
 clear hc hb2 m1 z1 B1 q0 q1 q2 q3 q4
 by_cases hbig : 200 < sc
 · go_wp2
   go_ret
   exact ⟨rfl, B2⟩
 by_cases hx60 : 60 < xs.length
 · go_wp2
   go_ret
   exact ⟨rfl, B2⟩
 have hsz : (E.pre t t).length ≤ 1000000 := by have h1 := HSC.out; have h2 := HSZ.out; omega
 have hN := new_any t d W2 (HLAT.out W2 B2).1 (HLAT.out W2 B2).2.1 (HLAT.out W2 B2).2.2.1 hsz hF
 obtain ⟨q0, q1, q2, q3, q4⟩ := cells_five m2
 unfold ND.v at hN
 clear hsz hF
 go_wp2_with fail
 refine hN.mono ?_
 rintro e W3 ⟨hb3, ⟨_, rfl⟩ | ⟨_, _, rfl⟩ | ⟨hac, hct, A, rfl, hA⟩⟩
 · have B3 := nx B2 hb3
   clear hN q0 q1 q2 q3 q4 m2 hb3
   go_wp2
   go_ret
   exact ⟨rfl, B3⟩
 · have B3 := nx B2 hb3
   clear hN q0 q1 q2 q3 q4 m2 hb3
   go_wp2
   go_ret
   exact ⟨rfl, B3⟩
 have B3 := nx B2 hb3
 have hg := PA.good_auto hac hct
 have hS := snew_any hA hg (HLAT.out W3 B3).2.1
 clear hN q0 q1 q2 q3 q4 m2 hb3 hac hct
 generalize PA.auto t = a at *
 have HG := hide hg
 have HA := hide hA
 clear hA hg HSC HSZ hbig hle
 go_wp2_with fail
 refine hS.mono ?_
 rintro e W4 ⟨hb4, ls, hls, ⟨rfl, _⟩ | ⟨D, k, rfl, hk, hj, hk1, hD⟩⟩
 · have B4 := nx B3 hb4
   clear hS hls hb4
   go_wp2
   go_ret
   exact ⟨rfl, B4⟩
 have B4 := nx B3 hb4
 have hF := SB.same_of HG.out hls hk hj hk1
 have hl60 := HG.out.len
 have hlen : ls.length = a.pl.length := by have := congrArg List.length hls; simpa using this
 have hpl : (U.psOf (U.msOf (pcs ls)) (pcs ls)).length ≤ 10000000 := by
   have hl2 : ∀ p ∈ ls, p.2.2.length ≤ 5000 := fun p hp => by
     have h1 : p.2.2 ∈ a.pl.map (·.1) := by rw [← hls]; exact List.mem_map_of_mem (f := fun q : U.L3 => q.2.2) hp
     obtain ⟨q, hq, e⟩ := List.mem_map.1 h1
     have := HG.out.set q hq
     rw [← e]
     omega
   have hz := U.endsZ_in ls (by omega)
   have hp2 := (U.pieces_in hz).1
   have hzl := U.endsZ_length ls (by omega) hl2
   unfold U.psOf pcs
   rw [List.length_map]
   omega
 have hl64 : ls.length ≤ 64 := by omega
 obtain ⟨L, hL⟩ : ∃ L, SB.gr (PA.behind a) (SB.fsOf a (U.msOf (pcs ls))) k = L := ⟨_, rfl⟩
 rw [hL] at hF hD hk
 have HC := hide (fun W (hb : Below W4.heap.size W4 W) => (⟨fun s r => dstepL_any (hD.later hb) hl64 hpl s r, sall_any (hD.later hb) hF hl64 hpl ao ca xs (HLAT.out W (nx B4 hb)).2.2.2 (by omega), dlen_any (hD.later hb), fun s => dmask_any (hD.later hb) s, fun s => dacc_any (hD.later hb) s⟩ :
   (∀ s r, Calls Tryz.prog 17 #[.pointer (some ⟨D, 0, none⟩), .int .i64 s, .int .i32 r] W fun e w' => e = .returned (.int .i64 (SB.NX a ls L s r)) ∧ Below W.heap.size W w') ∧
   (Calls Tryz.prog 20 #[.pointer (some ⟨D, 0, none⟩), .slice ao xs.length ca] W fun e w' => e = .returned (.bool (PA.allB a xs)) ∧ Below W.heap.size W w') ∧
   (Calls Tryz.prog 11 #[.pointer (some ⟨D, 0, none⟩)] W fun e w' => e = .returned (.int .i64 (L.length : Int)) ∧ w' = W) ∧
   (∀ s, Calls Tryz.prog 14 #[.pointer (some ⟨D, 0, none⟩), .int .i64 s] W fun e w' => e = .returned (.int .u64 (SB.mkI L s : Int)) ∧ w' = W) ∧
   (∀ s, Calls Tryz.prog 15 #[.pointer (some ⟨D, 0, none⟩), .int .i64 s] W fun e w' => e = .returned (.bool (SB.acI a L s)) ∧ w' = W)))
 have HCA := hide (fun W (hb : Below W4.heap.size W4 W) => (⟨fun s r hs => AutoAt.step (HA.out.later (nx hb4 hb)) HG.out s r hs (HLAT.out W (nx B4 hb)).2.1, fun s hs => AutoAt.accept (HA.out.later (nx hb4 hb)) HG.out s hs, AutoAt.all (HA.out.later (nx hb4 hb)) HG.out (HLAT.out W (nx B4 hb)).2.1 ao ca xs (HLAT.out W (nx B4 hb)).2.2.2 (by omega)⟩ :
   (∀ (s : Nat) (r : Int), s < 2 ^ 64 → Calls Tryz.prog 24 #[.pointer (some ⟨A, 0, none⟩), .int .u64 (s : Int), .int .i32 r] W fun e W' => e = .returned (.int .u64 ((PA.stp a s r : Nat) : Int)) ∧ Below W.heap.size W W') ∧
   (∀ s : Nat, s < 2 ^ 64 → Calls Tryz.prog 25 #[.pointer (some ⟨A, 0, none⟩), .int .u64 (s : Int)] W fun e W' => e = .returned (.bool (PA.acc a s)) ∧ W' = W) ∧
   (Calls Tryz.prog 26 #[.pointer (some ⟨A, 0, none⟩), .slice ao xs.length ca] W fun e W' => e = .returned (.bool (PA.allB a xs)) ∧ Below W.heap.size W W')))
 have HF := hide hF
 have HB4 := hide B4
 have hn1 : L.length ≤ 128 := by omega
 have hn0 := hF.k0
 have HX := hide (fun W (hb : Below W4.heap.size W4 W) => (HLAT.out W (nx B4 hb)).2.2.2)
 have HM0 : Hid (PA.bg = L.getD 0 0) := hide hF.hd.symm
 clear hS hls hk hj hk1 hD hF hl60 hlen hpl hl64 hL HLAT hb4 B3 B2 B4
 obtain ⟨n, hn⟩ : ∃ n, L.length = n := ⟨_, rfl⟩
 rw [hn] at hn1 hn0 HC
 have HN := hide hn
 clear hn
 go_wp2
 go_loopw [9, 10, 11] (fun p q u wr => ∃ (s m i : Nat), p = .int .i64 (s : Int) ∧ q = .int .u64 (m : Int) ∧ u = .int .i64 (i : Int) ∧ i ≤ xs.length ∧ s < n ∧ Hid (m = L.getD s 0) ∧ Below W4.heap.size W4 wr) (fun _ _ u _ => xs.length - (intOf u).toNat)
 case atStart => exact ⟨0, PA.bg, 0, rfl, rfl, rfl, Nat.zero_le _, hn0, HM0, Below.refl _ _⟩
 case round =>
   obtain ⟨s, m, i, rfl, rfl, rfl, hi, hs, HM, hB⟩ := hrel
   by_cases hlt : i < xs.length
   · obtain ⟨b, off, rfl, hce, hbl⟩ := (HX.out wr hB).lt hlt
     have HBD := hide (fun (h : ¬ (0 ≤ xs[i] ∧ xs[i] ≤ 1114111)) => SB.all_bad (a := a) hlt h)
     have c20 := (HC.out wr hB).2.1
     have HGO := hide (fun (h : 0 ≤ xs[i] ∧ xs[i] ≤ 1114111) => HF.out.go s (by rw [HN.out]; exact hs) xs[i] h)
     have c17 := fun W hb => (HC.out W (nx hB hb)).1 (s : Int) xs[i]
     have c24 := fun W hb => (HCA.out W (nx hB hb)).1 m xs[i] (by rw [HM.out]; exact HF.out.m64 s)
     generalize xs[i] = r at *
     by_cases hr0 : r < 0
     · have HBF : Hid (PA.allB a xs = false) := hide (HBD.out (by omega))
       rw [HBF.out] at c20
       clear c17 c24 HGO HBD
       go_wp2_with fail
       refine c20.mono ?_
       rintro e W5 ⟨rfl, hb5⟩
       have hBn := nx HB4.out (nx hB hb5)
       clear c20 hb5 hce
       go_wp2
       go_ret
       exact ⟨rfl, hBn⟩
     by_cases hr1 : 1114111 < r
     · have HBF : Hid (PA.allB a xs = false) := hide (HBD.out (by omega))
       rw [HBF.out] at c20
       clear c17 c24 HGO HBD
       go_wp2_with fail
       refine c20.mono ?_
       rintro e W5 ⟨rfl, hb5⟩
       have hBn := nx HB4.out (nx hB hb5)
       clear c20 hb5 hce
       go_wp2
       go_ret
       exact ⟨rfl, hBn⟩
     · obtain ⟨s', hs', e1, e2⟩ := HGO.out (by omega)
       rw [HN.out] at hs'
       rw [e1] at c17
       rw [← HM.out] at e2
       obtain ⟨m', hm'⟩ : ∃ m', PA.stp a m r = m' := ⟨_, rfl⟩
       rw [hm'] at c24 e2
       have HM2 : Hid (m' = L.getD s' 0) := hide e2.symm
       have hix := hlt
       clear c20 HGO HBD e1 e2 hm'
       go_wp2
       refine Reg.start (B := wr.heap.size) (by kernel_rfl) ?_
       refine Reg.take (fun _ _ _ _ _ h => h) 0 _ 64 (.pointer (some ⟨D, 0, none⟩)) rfl (by kernel_rfl) (by kernel_rfl) (by kernel_rfl) rfl (by kernel_rfl) (by kernel_rfl) (fun _ _ => by kernel_rfl) ?_
       refine Reg.take (fun _ _ _ _ _ h => h) 1 _ 65 (.int .i64 (s : Int)) rfl (by kernel_rfl) (by kernel_rfl) (by kernel_rfl) rfl (by kernel_rfl) (by kernel_rfl) (fun _ _ => by kernel_rfl) ?_
       refine Reg.take (fun _ _ _ _ _ h => h) 2 _ 66 (.slice (some ⟨b, off, none⟩) xs.length ca) rfl (by kernel_rfl) (by kernel_rfl) (by kernel_rfl) rfl (by kernel_rfl) (by kernel_rfl) (fun _ _ => by kernel_rfl) ?_
       refine Reg.take (fun _ _ _ _ _ h => h) 3 _ 67 (.int .i64 (i : Int)) rfl (by kernel_rfl) (by kernel_rfl) (by kernel_rfl) rfl (by kernel_rfl) (by kernel_rfl) (fun _ _ => by kernel_rfl) ?_
       refine Reg.take (fun _ _ _ _ _ h => h) 4 _ 68 (.pointer (some ⟨b, off + i * 1, none⟩)) rfl (by kernel_rfl) (by kernel_rfl) (by kernel_rfl) rfl (by kernel_rfl) (by kernel_rfl) (fun _ _ => U.Reg.ix rfl rfl rfl hlt Tryz.underlying39 (elemSize39 _)) ?_
       refine Reg.take (fun _ _ _ _ _ h => h) 5 _ 69 (.int .i32 r) rfl (by kernel_rfl) (by kernel_rfl) (by kernel_rfl) rfl (by kernel_rfl) (by kernel_rfl) (fun w' hb => U.Reg.ld1 rfl rfl (by rw [Nat.mul_one]; exact cell_keep hb hce hbl) (Tryz.isAgg21 _)) ?_
       refine Reg.take (fun _ _ _ _ _ h => h) 7 _ 71 (.pointer (some ⟨A, 0, none⟩)) rfl (by kernel_rfl) (by kernel_rfl) (by kernel_rfl) rfl (by kernel_rfl) (by kernel_rfl) (fun _ _ => by kernel_rfl) ?_
       refine Reg.take (fun _ _ _ _ _ h => h) 8 _ 72 (.int .u64 (m : Int)) rfl (by kernel_rfl) (by kernel_rfl) (by kernel_rfl) rfl (by kernel_rfl) (by kernel_rfl) (fun _ _ => by kernel_rfl) ?_
       refine Reg.take (fun _ _ _ _ _ h => h) 9 _ 73 (.slice (some ⟨b, off, none⟩) xs.length ca) rfl (by kernel_rfl) (by kernel_rfl) (by kernel_rfl) rfl (by kernel_rfl) (by kernel_rfl) (fun _ _ => by kernel_rfl) ?_
       refine Reg.take (fun _ _ _ _ _ h => h) 10 _ 74 (.int .i64 (i : Int)) rfl (by kernel_rfl) (by kernel_rfl) (by kernel_rfl) rfl (by kernel_rfl) (by kernel_rfl) (fun _ _ => by kernel_rfl) ?_
       refine Reg.take (fun _ _ _ _ _ h => h) 11 _ 75 (.pointer (some ⟨b, off + i * 1, none⟩)) rfl (by kernel_rfl) (by kernel_rfl) (by kernel_rfl) rfl (by kernel_rfl) (by kernel_rfl) (fun _ _ => U.Reg.ix rfl rfl rfl hlt Tryz.underlying39 (elemSize39 _)) ?_
       refine Reg.take (fun _ _ _ _ _ h => h) 12 _ 76 (.int .i32 r) rfl (by kernel_rfl) (by kernel_rfl) (by kernel_rfl) rfl (by kernel_rfl) (by kernel_rfl) (fun w' hb => U.Reg.ld1 rfl rfl (by rw [Nat.mul_one]; exact cell_keep hb hce hbl) (Tryz.isAgg21 _)) ?_
       refine Reg.call 6 _ 70 17 _ _ #[.pointer (some ⟨D, 0, none⟩), .int .i64 (s : Int), .int .i32 r] rfl (by kernel_rfl) rfl (by kernel_rfl) (by kernel_rfl) rfl (by kernel_rfl) (by kernel_rfl) (c17 _ (blD _)) ?_
       rintro e w2 ⟨rfl, hb2⟩
       refine ⟨_, w2.heap.size, rfl, hb2.size, hb2, ?_⟩
       refine Reg.call 13 _ 77 24 _ _ #[.pointer (some ⟨A, 0, none⟩), .int .u64 (m : Int), .int .i32 r] rfl (by kernel_rfl) rfl (by kernel_rfl) (by kernel_rfl) rfl (by kernel_rfl) (by kernel_rfl) (c24 _ (nx (blD _) hb2)) ?_
       rintro e w3 ⟨rfl, hb3⟩
       refine ⟨_, w3.heap.size, rfl, hb3.size, hb3, ?_⟩
       refine Reg.take (fun _ _ _ _ _ h => h) 14 _ 9 (.int .i64 (s' : Int)) rfl (by kernel_rfl) (by kernel_rfl) (by kernel_rfl) rfl (by kernel_rfl) (by kernel_rfl) (fun _ _ => by kernel_rfl) ?_
       refine Reg.take (fun _ _ _ _ _ h => h) 15 _ 10 (.int .u64 (m' : Int)) rfl (by kernel_rfl) (by kernel_rfl) (by kernel_rfl) rfl (by kernel_rfl) (by kernel_rfl) (fun _ _ => by kernel_rfl) ?_
       refine Reg.done (by kernel_rfl) ?_
       simp only [Reg.ov, Act.put, List.setIfInBounds_toArray, List.set_cons_succ, List.set_cons_zero]
       have hBn : Below W4.heap.size W4 w3 := nx hB (bdrew (nx hb2 hb3))
       have hm64 : m' < 2 ^ 64 := by rw [HM2.out]; exact HF.out.m64 s'
       obtain ⟨_, _, c11, h14, h15⟩ := HC.out w3 hBn
       have c14 := h14 (s' : Int)
       have c15 := h15 (s' : Int)
       have c25 := (HCA.out w3 hBn).2.1 m' hm64
       rw [SB.acI_at (by rw [HN.out]; exact hs'), ← HM2.out] at c15
       rw [show SB.mkI L (s' : Int) = m' by rw [HM2.out]; unfold SB.mkI SB.inL; rw [if_pos (by rw [HN.out]; simp; omega), Int.toNat_natCast]] at c14
       obtain ⟨q, hq⟩ : ∃ q, PA.acc a m' = q := ⟨_, rfl⟩
       rw [hq] at c15 c25
       clear c17 c24 hb2 hb3 hce h14 h15 hm64 hq
       go_wp2_with fail
       refine c11.mono ?_
       rintro e W5 ⟨rfl, rfl⟩
       clear c11
       go_wp2_with fail
       refine c14.mono ?_
       rintro e W6 ⟨rfl, rfl⟩
       clear c14
       go_wp2_with fail
       refine c15.mono ?_
       rintro e W7 ⟨rfl, rfl⟩
       clear c15
       go_wp2_with fail
       refine c25.mono ?_
       rintro e W8 ⟨rfl, rfl⟩
       clear c25
       cases q with
       | true =>
         go_wp2
         go_roundw
         case rel => exact ⟨s', m', i + 1, rfl, rfl, by go_num, by omega, hs', HM2, hBn⟩
         case measure => simp [intOf] <;> omega
       | false =>
         go_wp2
         go_roundw
         case rel => exact ⟨s', m', i + 1, rfl, rfl, by go_num, by omega, hs', HM2, hBn⟩
         case measure => simp [intOf] <;> omega
   · obtain rfl : i = xs.length := by omega
     have c20 := (HC.out wr hB).2.1
     have c26 := fun W hb => (HCA.out W (nx hB hb)).2.2
     have c11 := fun W hb => (HC.out W (nx hB hb)).2.2.1
     obtain ⟨q, hq⟩ : ∃ q, PA.allB a xs = q := ⟨_, rfl⟩
     rw [hq] at c20 c26
     clear hq
     go_wp2_with fail
     refine c20.mono ?_
     rintro e W5 ⟨rfl, hb5⟩
     have c26' := c26 W5 hb5
     clear c20 c26
     go_wp2_with fail
     refine c26'.mono ?_
     rintro e W6 ⟨rfl, hb6⟩
     have hb56 := nx hb5 hb6
     have c11' := c11 W6 hb56
     have hBn := nx HB4.out (nx hB hb56)
     clear c26' c11
     cases q with
     | true =>
       go_wp2_with fail
       refine c11'.mono ?_
       rintro e W7 ⟨rfl, rfl⟩
       go_wp2
       go_ret
       refine ⟨?_, hBn⟩
       rw [show decide ((n : Int) ≤ 128) = true from decide_eq_true (by omega)]
       rfl
     | false =>
       go_wp2_with fail
       refine c11'.mono ?_
       rintro e W7 ⟨rfl, rfl⟩
       go_wp2
       go_ret
       refine ⟨?_, hBn⟩
       rw [show decide ((n : Int) ≤ 128) = true from decide_eq_true (by omega)]
       rfl
end Go.Proofs.YtgngaldoemopjaaGreatDoor
namespace Go.Proofs.YtgngaldoemopjaaGreatDoor
open Go.ChangeShapes Go.WideShapes Go.ChangeAt Go.RowKit
theorem own : ownKnob Tryz.prog.godebug = none := by kernel_rfl
theorem laidOut : laidOutB Tryz.prog = true := by kernel_rfl
def tabsRen : Go.Shelf.Ren := ⟨fun n => n, fun | 5 => 5 | 119 => 298 | 138 => 300 | 139 => 301 | n => n, fun | 3 => 2 | 4 => 3 | n => n⟩
theorem tabsTypes : U8Types Tryz.prog tabsRen := { t5 := Tryz.underlying5, t119 := Tryz.underlying298, t138 := Tryz.underlying300, t139 := Tryz.underlying301 }
theorem tabsExtra : U8Extra Tryz.prog tabsRen := { n3 := by kernel_rfl, n4 := by kernel_rfl, y3 := by kernel_rfl, y4 := by kernel_rfl, c5 := by kernel_rfl, c119 := by kernel_rfl, c138 := by kernel_rfl }
set_option maxRecDepth 100000 in
theorem first_eq : Rows.laid_unicode_utf8_first = Lib.firstData := by kernel_rfl
theorem accept_eq : (Rows.laid_unicode_utf8_acceptRanges : DataW Unit) = Lib.acceptData := by kernel_rfl
def laid2 : List (String × DataW Unit) := [("math/bits.deBruijn32tab", Rows.laid_math_bits_deBruijn32tab), ("math/bits.deBruijn64tab", Rows.laid_math_bits_deBruijn64tab), ("internal/strconv.uint64pow10", Rows.laid_internal_strconv_uint64pow10), ("unicode/utf8.acceptRanges", Rows.laid_unicode_utf8_acceptRanges), ("strconv.ErrRange", Rows.laid_strconv_ErrRange), ("strconv.ErrSyntax", Rows.laid_strconv_ErrSyntax), ("unicode/utf8.first", Rows.laid_unicode_utf8_first)]
set_option maxRecDepth 100000 in
theorem laid_met2 (os : Os) (args : Array Value) : laidMetH Tryz.prog laid2 ((World.laidAll Tryz.prog os laid2).forCall (fun _ _ => 0) ⟨#[], args, []⟩).memory := by
 rw [MakeChecks.laidMetH_plain _ _ _ (by kernel_rfl)]
 exact laidMet_laidAll _ (by kernel_rfl) (by kernel_rfl)
theorem tabs_of_laid2 {W : World} (h : laidMetH Tryz.prog laid2 W) : Tabs W := by
 rw [MakeChecks.laidMetH_plain _ _ _ (by kernel_rfl)] at h
 have h1 := Lib.laidMet.reads h (n := "unicode/utf8.first") (d := Rows.laid_unicode_utf8_first) (by simp [laid2])
 have h2 := Lib.laidMet.reads h (n := "unicode/utf8.acceptRanges") (d := Rows.laid_unicode_utf8_acceptRanges) (by simp [laid2])
 rw [first_eq] at h1
 rw [accept_eq] at h2
 exact utf8Tabs_of_readsT tabsTypes tabsExtra h1 h2
def deb64 : List Int := [0, 1, 56, 2, 57, 49, 28, 3, 61, 58, 42, 50, 38, 29, 17, 4, 62, 47, 59, 36, 45, 43, 51, 22, 53, 39, 33, 30, 24, 18, 12, 5, 63, 55, 48, 27, 60, 41, 37, 16, 46, 35, 44, 21, 52, 32, 23, 11, 54, 26, 40, 15, 34, 20, 31, 10, 25, 14, 19, 9, 13, 8, 7, 6]
theorem deb_eq : (Rows.laid_math_bits_deBruijn64tab : DataW Unit) = Lib.tabData .u8 deb64 := by kernel_rfl
theorem deb_tab : ∀ j, j < 64 → deb64[j]? = some ((Lib.deBruijn64tab.getD j 0 : Nat) : Int) := by decide
theorem deb_len : Lib.deBruijn64tab.length = 64 := by decide
theorem deb_of_laid {W : World} (h : laidMetH Tryz.prog laid2 W) : Deb W := by
 rw [MakeChecks.laidMetH_plain _ _ _ (by kernel_rfl)] at h
 have h1 := Lib.laidMet.reads h (n := "math/bits.deBruijn64tab") (d := Rows.laid_math_bits_deBruijn64tab) (by simp [laid2])
 rw [deb_eq] at h1
 obtain ⟨g, t, cs, fuel, p, hg, hty, hvar, hd⟩ := h1
 obtain rfl := Option.some.inj ((show Tryz.prog.globalNamed "math/bits.deBruijn64tab" = some 0 by kernel_rfl).symm.trans hg)
 obtain rfl := Option.some.inj ((show (Tryz.prog.globals[0]?).map (·.type) = some 187 by kernel_rfl).symm.trans hty)
 have hcs := Lib.cells_of_tab (n := 64) Tryz.underlying187 Tryz.underlying5 (by kernel_rfl) (by kernel_rfl) hd
 intro j hj
 rw [deb_len] at hj
 have := World.var?_cell hg hvar j
 rw [this, ← Array.getElem?_toList, hcs, List.getElem?_map, deb_tab j hj]
 rfl
end Go.Proofs.YtgngaldoemopjaaGreatDoor
namespace Go.Proofs.YtgngaldoemopjaaGreatDoor
open Go.ChangeShapes Go.WideShapes Go.ChangeAt Go.RowKit
theorem rdi_of_trod {H : Type} {enc : TypeId × Value → H} {W : World} {base : Nat} {sp : Nat → Bool} {held : Bool} {a0 : Option Addr} {len cap : Nat} {d : DataW H} {p : List MemPlace}
   (h : DataW.Trod enc Tryz.prog W base sp held 39 (.slice a0 len cap) d p) : ∃ xs : List Int, len = xs.length ∧ xs.length ≤ cap ∧ xs.length ≤ 9223372036854775807 ∧ (RdC32 W a0 xs ∧ (a0 = none → cap = 0) ∧ ∀ x ∈ xs, -2147483648 ≤ x ∧ x ≤ 2147483647) := by
 obtain ⟨fuel, hf⟩ := h
 rcases open_ints Tryz.underlying39 Tryz.underlying21 (by kernel_rfl) hf with ⟨hcs, _⟩ | ⟨x, l, c, zs, hcs, _, hl, hm, hz, _, hcell, hwz⟩
 · simp [Value.cells] at hcs
   obtain ⟨rfl, rfl, rfl⟩ := hcs
   exact ⟨[], rfl, Nat.zero_le _, Nat.zero_le _, fun i hi => by simp at hi, fun _ => rfl, fun x hx => by cases hx⟩
 · simp [Value.cells] at hcs
   obtain ⟨rfl, rfl, rfl⟩ := hcs
   have hzl : len ≤ zs.length := by split at hz <;> omega
   refine ⟨zs.take len, by simp; omega, by simp; omega, by simp; unfold maxLen at hm; omega, ?_, (fun e => by cases e), ?_⟩
   · intro i hi
     have hi' : i < len := by simp at hi; omega
     obtain ⟨b, off, rfl, hc⟩ := ints_at hcell (show 0 < zs.length by omega)
     refine ⟨b, off, rfl, ?_⟩
     have hiz : i < zs.length := by omega
     rw [hc i hiz]
     simp only [List.getD_eq_getElem?_getD, List.getElem?_eq_getElem hiz, Option.getD_some, List.getElem_take]
   · intro x hx
     exact bounds_i32 (hwz x (List.mem_of_mem_take hx))
end Go.Proofs.YtgngaldoemopjaaGreatDoor
