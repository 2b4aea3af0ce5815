/- Joined: Sbe Wbt. -/
import Derived.Test.YtgngaldoemopjaaGreatDoorDSbd
import Derived.BigRegion
import Derived.Test.YtgngaldoemopjaaGreatDoorRows
import Derived.Test.YtgngaldoemopjaaGreatDoorDJE
import Derived.Test.YtgngaldoemopjaaGreatDoorDPlb
import Derived.ProofKit
import Derived.LaidMore
import Derived.Lay
import Derived.OpenShut
import Derived.Stop.Joined
import Derived.Lib.LaidU8T
import Derived.Lib.LaidTab
namespace Go.Proofs.YtgngaldoemopjaaGreatDoor
open Go.RowKit Go.Shelf
open E (T isS)
attribute [local go_sem] Oper.semAt_some
theorem ms_len {a : PA.Au} {ls : List U.L3} (hg : PA.Good a) (hls : ls.map (·.2.2) = a.pl.map (·.1)) : (U.msOf (pcs ls)).length ≤ 700000 := by
 have hlen : ls.length = a.pl.length := by have := congrArg List.length hls; simpa using this
 have hl60 := hg.len
 have hl2 : ∀ p ∈ ls, p.2.2.length ≤ 5000 := fun p hp => by
   have h1 : p.2.2 ∈ a.pl.map (·.1) := by rw [← hls]; exact List.mem_map_of_mem (f := fun q : U.L3 => q.2.2) hp
   obtain ⟨q, hq, e⟩ := List.mem_map.1 h1
   have := hg.set q hq
   rw [← e]
   omega
 have hz := U.endsZ_in ls (by omega)
 have hp2 := U.pieces_in hz
 have hzl := U.endsZ_length ls (by omega) hl2
 have hml := U.msOf_length (pcs ls)
 have := hp2.1
 unfold pcs at hml ⊢
 omega
def Led (k n : Nat) (T : Nat → Nat → Nat) (b : List Bool) (s c : Nat) : Prop := b.length = k ∧ b[0]? = some true ∧ (∀ j < s, ∀ q < n, b[T j q]? = some true) ∧ ∀ q < c, b[T s q]? = some true
theorem Led.set {k n : Nat} {T : Nat → Nat → Nat} {b : List Bool} {s c x : Nat} (h : Led k n T b s c) (hx : T s c = x) (hk : x < k) : Led k n T (b.set x true) s (c + 1) := by
 obtain ⟨h1, h2, h3, h4⟩ := h
 have key : ∀ i, b[i]? = some true → (b.set x true)[i]? = some true := fun i hi => by
   rw [List.getElem?_set]
   by_cases e : x = i
   · rw [if_pos e, if_pos (by omega)]
   · rw [if_neg e]; exact hi
 refine ⟨by rw [List.length_set]; exact h1, key _ h2, fun j hj q hq => key _ (h3 j hj q hq), fun q hq => ?_⟩
 by_cases e : q = c
 · subst e
   rw [hx, List.getElem?_set, if_pos rfl, if_pos (by rw [h1]; exact hk)]
 · exact key _ (h4 q (by omega))
theorem Led.next {k n : Nat} {T : Nat → Nat → Nat} {b : List Bool} {s : Nat} (h : Led k n T b s n) : Led k n T b (s + 1) 0 := by
 obtain ⟨h1, h2, h3, h4⟩ := h
 refine ⟨h1, h2, fun j hj q hq => ?_, fun q hq => absurd hq (by omega)⟩
 by_cases e : j = s
 · subst e; exact h4 q hq
 · exact h3 j (by omega) q hq
theorem Led.whole {k n : Nat} {M : Nat → Nat} {T : Nat → Nat → Nat} {A : Nat → Bool} {b : List Bool} (h : Led k n T b k 0) (hF : SB.DeadF n k M T A) : ∀ i < k, b[i]? = some true := by
 intro i hi
 rcases Nat.eq_zero_or_pos i with rfl | h0
 · exact h.2.1
 · obtain ⟨s, hs, c, hc, rfl⟩ := hF.led i h0 hi
   exact h.2.2.1 s hs c hc
set_option maxRecDepth 100000 in
set_option maxHeartbeats 8000000 in
theorem sdead_any (t : T) (hF : InT t) (d : ND) (w : World) (ht : Tabs w) (hd : Deb w) (hT : TR w (fun _ => True) t d.v) : Calls Tryz.prog 3 #[d.v] w fun e w' => e = .returned (.bool true) ∧ Below w.heap.size w w' := by
 have b1 := al1 w (.cells #[.int .i64 d.k, .int .i64 d.a, .slice d.sp d.sl d.sc, .string d.n, .slice d.kp d.kl d.kc] 25)
 have n1 := heap_alloc_new w (.cells #[.int .i64 d.k, .int .i64 d.a, .slice d.sp d.sl d.sc, .string d.n, .slice d.kp d.kl d.kc] 25)
 have s1 : (w.alloc (.cells #[.int .i64 d.k, .int .i64 d.a, .slice d.sp d.sl d.sc, .string d.n, .slice d.kp d.kl d.kc] 25)).heap.size = w.heap.size + 1 := by simp
 obtain ⟨X, hX⟩ : ∃ X, w.alloc (.cells #[.int .i64 d.k, .int .i64 d.a, .slice d.sp d.sl d.sc, .string d.n, .slice d.kp d.kl d.kc] 25) = X := ⟨_, rfl⟩
 rw [hX] at b1 n1 s1
 have HLAT := hide (fun W (hb : Below w.heap.size w W) => (⟨ht.later hb, hd.later hb, TR.later (fun k hk => hb.block k hk) _ hT⟩ : Tabs W ∧ Deb W ∧ TR W (fun _ => True) t d.v))
 have hk := known14_any X (HLAT.out X b1).1 (HLAT.out X b1).2.1
 clear ht hd hT
 unfold ND.v
 go_enter Tryz.func3, Tryz.ntmps3
 go_wp2_with fail
 refine hk.mono ?_
 rintro e W1 ⟨rfl, hb1⟩
 have B1 := nx b1 hb1
 have m1 := (hb1.block _ (by omega)).trans n1
 have hc := count_any t hF d W1 200 (by decide) (HLAT.out W1 B1).2.2
 have z1 : w.heap.size + 1 ≤ W1.heap.size := by have := hb1.size; omega
 obtain ⟨q0, q1, q2, q3, q4⟩ := cells_five m1
 have HSZ : Hid (sz t = (E.pre t t).length) := rfl
 obtain ⟨sc, hsc⟩ : ∃ sc, min (sz t) (200 + 1) = sc := ⟨_, rfl⟩
 rw [hsc] at hc
 have HSC := hide hsc
 have hle : sc ≤ 201 := by omega
 unfold ND.v at hc
 rw [show ((200 : Nat) : Int) = 200 from rfl] at hc
 clear hk hb1 n1 s1 hX hsc b1
 go_wp2_with fail
 refine hc.mono ?_
 rintro e W2 ⟨rfl, hb2⟩
 have B2 := nx B1 hb2
 have m2 := (hb2.block _ (by omega)).trans m1
 clear hc hb2 m1 z1 B1 q0 q1 q2 q3 q4
 by_cases hbig : 200 < sc
 · go_wp2
   go_ret
   exact ⟨rfl, B2⟩
 have hsz : (E.pre t t).length ≤ 1000000 := by have h1 := HSC.out; have h2 := HSZ.out; omega
 have hN := dfa_any t d W2 (HLAT.out W2 B2).1 (HLAT.out W2 B2).2.1 (HLAT.out W2 B2).2.2 hsz hF
 obtain ⟨q0, q1, q2, q3, q4⟩ := cells_five m2
 unfold ND.v at hN
 clear hsz hF HLAT
 go_wp2_with fail
 refine hN.mono ?_
 intro e W3 hw
 clear hN q0 q1 q2 q3 q4 m2
 obtain ⟨hb3, ⟨_, f, hf, rfl⟩ | ⟨hac, hct, W0, _, ls, hls, h3⟩⟩ := hw
 · have B3 := nx B2 hb3
   go_wp2
   go_ret
   exact ⟨rfl, B3⟩
 have B3 := nx B2 hb3
 rcases h3 with ⟨rfl, _⟩ | ⟨D, k, rfl, hk, hj, hk1, hD⟩
 · clear hb3 hls
   go_wp2
   go_ret
   exact ⟨rfl, B3⟩
 obtain ⟨M, T, A, hDF, hDC⟩ := dead_of (PA.good_auto hac hct) hk hj hk1 hD
 have hnl := ms_len (PA.good_auto hac hct) hls
 obtain ⟨n, hn⟩ : ∃ n, (U.msOf (pcs ls)).length = n := ⟨_, rfl⟩
 rw [hn] at hDF hDC hnl
 have hk0 := hDF.k0
 clear hls hD hk hj hac hct hn hb3 B2 HSC HSZ hbig hle
 have HB3 := hide B3
 have hl := (hDC W3 (Below.refl _ _)).1
 have HC := hide hDC
 have HDF := hide hDF
 have hmk := mk_bools k (by omega) W3
 have bX := al1 W3 (.cells (cBo (List.replicate k false)).toArray 4)
 have nX := heap_alloc_new W3 (.cells (cBo (List.replicate k false)).toArray 4)
 obtain ⟨X, hX⟩ : ∃ X, W3.alloc (.cells (cBo (List.replicate k false)).toArray 4) = X := ⟨_, rfl⟩
 rw [hX] at hmk bX nX
 obtain ⟨g, hg⟩ : ∃ g, W3.heap.size = g := ⟨_, rfl⟩
 rw [hg] at hmk nX bX
 have HG := hide hg
 have es := elemSize32
 have hfz : X.frozen? ⟨g, 0, none⟩ = false := U.frozen_at nX
 have hset := cells_set (i := 0) (v := .bool true) nX
 rw [cBo_set] at hset
 have HSE := hide hset
 have hci := cells_idx (i := 0) nX (cBo_at (b := List.replicate k false) (i := 0) (x := false) (by simp [hk0]))
 have HBX := hide (show Below g W3 (X.setCell ⟨g, 0, none⟩ (.bool true)) from ⟨bX.os, bX.tape, bX.output, by have := bX.size; simp [World.setCell]; omega, fun j hj => (Below.heap_setCell _ _ _ _ (show j ≠ g by omega)).trans (bX.block j hj)⟩)
 have HL0 : Hid (Led k n T ((List.replicate k false).set 0 true) 0 0) := hide ⟨by simp, by simp [hk0], fun j hj => absurd hj (by omega), fun q hq => absurd hq (by omega)⟩
 clear hDC hDF hX hg bX nX hset B3
 go_wp2_with fail
 refine hl.mono ?_
 rintro e W4 ⟨rfl, rfl⟩
 clear hl
 go_wp2
 go_loopw [6] (fun u wr => ∃ (s : Nat) (b : List Bool), u = .int .i64 (s : Int) ∧ s ≤ k ∧ Hid (wr.heap[g]? = some (.cells (cBo b).toArray 4 (0, 0))) ∧ Hid (Led k n T b s 0) ∧ Below g W4 wr) (fun u _ => k - (intOf u).toNat)
 case atStart => exact ⟨0, _, rfl, Nat.zero_le _, hide HSE.out, HL0, ⟨HBX.out.os, HBX.out.tape, HBX.out.output, HBX.out.size, HBX.out.block⟩⟩
 case round =>
   obtain ⟨s, b, rfl, hs, HR, HL, hB⟩ := hrel
   have hBe : Below W4.heap.size W4 wr := by rw [HG.out]; exact hB
   obtain ⟨c11, _, _⟩ := HC.out wr hBe
   clear hBe
   by_cases hlt : s < k
   · go_wp2_with fail
     refine c11.mono ?_
     rintro e W5 ⟨rfl, rfl⟩
     clear c11
     go_wp2
     go_loopw [7] (fun u wr => ∃ (c : Nat) (b : List Bool), u = .int .i64 (c : Int) ∧ c ≤ n ∧ Hid (wr.heap[g]? = some (.cells (cBo b).toArray 4 (0, 0))) ∧ Hid (Led k n T b s c) ∧ Below g W4 wr) (fun u _ => n - (intOf u).toNat)
     case atStart => exact ⟨0, b, rfl, Nat.zero_le _, HR, HL, hB⟩
     case round =>
       obtain ⟨c, b2, rfl, hcn, HR2, HL2, hB2⟩ := hrel
       have hBe : Below W4.heap.size W4 wr := by rw [HG.out]; exact hB2
       obtain ⟨c11, c12, hcs⟩ := HC.out wr hBe
       obtain ⟨h13, h14, h15⟩ := hcs s hlt
       clear hcs hBe
       by_cases hc : c < n
       · have h13c := h13 c hc
         obtain ⟨hx0, hx1, hx2⟩ := HDF.out.to s hlt c hc
         obtain ⟨x, hx⟩ : ∃ x, T s c = x := ⟨_, rfl⟩
         obtain ⟨m, hm⟩ : ∃ m, M s = m := ⟨_, rfl⟩
         rw [hx] at h13c hx0 hx1 hx2
         rw [hm] at hx2 h14
         have HN := hide (HL2.out.set hx hx1)
         have hrw := HR2.out
         have hfz2 : wr.frozen? ⟨g, x, none⟩ = false := U.frozen_at hrw
         have hset2 := cells_set (i := x) (v := .bool true) hrw
         rw [cBo_set] at hset2
         have HSE2 := hide hset2
         obtain ⟨bx, hbx⟩ : ∃ bx, b2[x]? = some bx := ⟨_, List.getElem?_eq_getElem (by rw [HL2.out.1]; exact hx1)⟩
         have hci2 := cells_idx (i := x) hrw (cBo_at hbx)
         have HBS := hide (show Below g W4 (wr.setCell ⟨g, x, none⟩ (.bool true)) from ⟨hB2.os, hB2.tape, hB2.output, by have := hB2.size; simp [World.setCell]; omega, fun j hj => (Below.heap_setCell _ _ _ _ (show j ≠ g by omega)).trans (hB2.block j hj)⟩)
         clear h13 h15 hx hm hrw hset2 hbx
         go_wp2_with fail
         refine c12.mono ?_
         rintro e W6 ⟨rfl, rfl⟩
         clear c12
         go_wp2_with fail
         refine h13c.mono ?_
         rintro e W7 ⟨rfl, rfl⟩
         clear h13c
         go_wp2_with fail
         refine c11.mono ?_
         rintro e W8 ⟨rfl, rfl⟩
         clear c11
         by_cases hm0 : m = 0
         · subst hm0
           obtain rfl := hx2 rfl
           rw [show ((0 : Nat) : Int) = 0 from rfl] at h14
           go_wp2_with fail
           refine h14.mono ?_
           rintro e W9 ⟨rfl, rfl⟩
           clear h14
           go_wp2
           first | (go_region; go_wp2) | skip
           go_roundw
           case rel => exact ⟨c + 1, _, by go_num, by omega, hide HSE2.out, HN, ⟨HBS.out.os, HBS.out.tape, HBS.out.output, HBS.out.size, HBS.out.block⟩⟩
           case measure => simp [intOf] <;> omega
         · clear hx2
           go_wp2_with fail
           refine h14.mono ?_
           rintro e W9 ⟨rfl, rfl⟩
           clear h14
           go_wp2
           first | (go_region; go_wp2) | skip
           go_roundw
           case rel => exact ⟨c + 1, _, by go_num, by omega, hide HSE2.out, HN, ⟨HBS.out.os, HBS.out.tape, HBS.out.output, HBS.out.size, HBS.out.block⟩⟩
           case measure => simp [intOf] <;> omega
       · obtain rfl : c = n := by omega
         have hdd := HDF.out.dead s hlt
         have HL3 := hide HL2.out.next
         obtain ⟨m, hm⟩ : ∃ m, M s = m := ⟨_, rfl⟩
         obtain ⟨q, hq⟩ : ∃ q, A s = q := ⟨_, rfl⟩
         rw [hm] at hdd h14
         rw [hq] at hdd h15
         clear hm hq h13 c11
         go_wp2_with fail
         refine c12.mono ?_
         rintro e W6 ⟨rfl, rfl⟩
         clear c12
         by_cases hm0 : m = 0
         · obtain rfl := hdd hm0
           subst hm0
           rw [show ((0 : Nat) : Int) = 0 from rfl] at h14
           clear hdd
           go_wp2_with fail
           refine h14.mono ?_
           rintro e W7 ⟨rfl, rfl⟩
           clear h14
           go_wp2_with fail
           refine h15.mono ?_
           rintro e W8 ⟨rfl, rfl⟩
           clear h15
           go_wp2
           go_loopw [9] (fun u wr => ∃ i : Nat, u = .int .i64 (i : Int) ∧ i ≤ s ∧ wr = W8) (fun u _ => s - (intOf u).toNat)
           case atStart => exact ⟨0, rfl, Nat.zero_le _, by first | rfl | trivial⟩
           case round =>
             obtain ⟨i, rfl, hi, hwr⟩ := hrel
             obtain rfl := hwr.symm
             clear hwr
             by_cases hi2 : i < s
             · have hBe : Below W4.heap.size W4 W8 := by rw [HG.out]; exact hB2
               obtain ⟨_, _, hcs⟩ := HC.out W8 hBe
               have h14i := (hcs i (by omega)).2.1
               have h14s := (hcs s hlt).2.1
               have hne := HDF.out.one i s hi2 hlt
               obtain ⟨mi, hmi⟩ : ∃ mi, M i = mi := ⟨_, rfl⟩
               obtain ⟨mz, hmz⟩ : ∃ mz, M s = mz := ⟨_, rfl⟩
               rw [hmi] at h14i hne
               rw [hmz] at h14s hne
               clear hcs hmi hmz hBe
               go_wp2_with fail
               refine h14i.mono ?_
               rintro e W11 ⟨rfl, rfl⟩
               clear h14i
               go_wp2_with fail
               refine h14s.mono ?_
               rintro e W12 ⟨rfl, rfl⟩
               clear h14s
               go_wp2
               go_roundw
               case rel => exact ⟨i + 1, by go_num, by omega, by first | rfl | trivial⟩
               case measure => simp [intOf] <;> omega
             · obtain rfl : i = s := by omega
               go_wp2
               go_roundw
               case rel => exact ⟨i + 1, b2, by go_num, by omega, HR2, HL3, hB2⟩
               case measure => simp [intOf] <;> omega
         · clear hdd h15
           go_wp2_with fail
           refine h14.mono ?_
           rintro e W8 ⟨rfl, rfl⟩
           clear h14
           go_wp2
           go_loopw [9] (fun u wr => ∃ i : Nat, u = .int .i64 (i : Int) ∧ i ≤ s ∧ wr = W8) (fun u _ => s - (intOf u).toNat)
           case atStart => exact ⟨0, rfl, Nat.zero_le _, by first | rfl | trivial⟩
           case round =>
             obtain ⟨i, rfl, hi, hwr⟩ := hrel
             obtain rfl := hwr.symm
             clear hwr
             by_cases hi2 : i < s
             · have hBe : Below W4.heap.size W4 W8 := by rw [HG.out]; exact hB2
               obtain ⟨_, _, hcs⟩ := HC.out W8 hBe
               have h14i := (hcs i (by omega)).2.1
               have h14s := (hcs s hlt).2.1
               have hne := HDF.out.one i s hi2 hlt
               obtain ⟨mi, hmi⟩ : ∃ mi, M i = mi := ⟨_, rfl⟩
               obtain ⟨mz, hmz⟩ : ∃ mz, M s = mz := ⟨_, rfl⟩
               rw [hmi] at h14i hne
               rw [hmz] at h14s hne
               clear hcs hmi hmz hBe
               go_wp2_with fail
               refine h14i.mono ?_
               rintro e W11 ⟨rfl, rfl⟩
               clear h14i
               go_wp2_with fail
               refine h14s.mono ?_
               rintro e W12 ⟨rfl, rfl⟩
               clear h14s
               go_wp2
               go_roundw
               case rel => exact ⟨i + 1, by go_num, by omega, by first | rfl | trivial⟩
               case measure => simp [intOf] <;> omega
             · obtain rfl : i = s := by omega
               go_wp2
               go_roundw
               case rel => exact ⟨i + 1, b2, by go_num, by omega, HR2, HL3, hB2⟩
               case measure => simp [intOf] <;> omega
   · obtain rfl : s = k := by omega
     have HWH := hide (HL.out.whole HDF.out)
     go_wp2_with fail
     refine c11.mono ?_
     rintro e W5 ⟨rfl, rfl⟩
     clear c11
     go_wp2
     go_loopw [10] (fun u wr => ∃ i : Nat, u = .int .i64 (i : Int) ∧ i ≤ s ∧ wr = W5) (fun u _ => s - (intOf u).toNat)
     case atStart => exact ⟨0, rfl, Nat.zero_le _, by first | rfl | trivial⟩
     case round =>
       obtain ⟨i, rfl, hi, hwr⟩ := hrel
       obtain rfl := hwr.symm
       clear hwr
       have hBe : Below W4.heap.size W4 W5 := by rw [HG.out]; exact hB
       obtain ⟨c11, _, _⟩ := HC.out W5 hBe
       by_cases hi2 : i < s
       · have hci3 := cells_idx (i := i) HR.out (cBo_at (HWH.out i hi2))
         clear hBe
         go_wp2_with fail
         refine c11.mono ?_
         rintro e W6 ⟨rfl, rfl⟩
         clear c11
         go_wp2
         go_roundw
         case rel => exact ⟨i + 1, by go_num, by omega, by first | rfl | trivial⟩
         case measure => simp [intOf] <;> omega
       · obtain rfl : i = s := by omega
         go_wp2_with fail
         refine c11.mono ?_
         rintro e W6 ⟨rfl, rfl⟩
         clear c11
         go_wp2
         go_ret
         exact ⟨rfl, nx HB3.out hBe⟩
end Go.Proofs.YtgngaldoemopjaaGreatDoor
namespace Go.Proofs.YtgngaldoemopjaaGreatDoor
open Go.ChangeShapes Go.WideShapes Go.ChangeAt Go.RowKit
theorem own : ownKnob Tryz.prog.godebug = none := by kernel_rfl
theorem laidOut : laidOutB Tryz.prog = true := by kernel_rfl
def tabsRen : Go.Shelf.Ren := ⟨fun n => n, fun | 5 => 5 | 119 => 298 | 138 => 300 | 139 => 301 | n => n, fun | 3 => 2 | 4 => 3 | n => n⟩
theorem tabsTypes : U8Types Tryz.prog tabsRen := { t5 := Tryz.underlying5, t119 := Tryz.underlying298, t138 := Tryz.underlying300, t139 := Tryz.underlying301 }
theorem tabsExtra : U8Extra Tryz.prog tabsRen := { n3 := by kernel_rfl, n4 := by kernel_rfl, y3 := by kernel_rfl, y4 := by kernel_rfl, c5 := by kernel_rfl, c119 := by kernel_rfl, c138 := by kernel_rfl }
set_option maxRecDepth 100000 in
theorem first_eq : Rows.laid_unicode_utf8_first = Lib.firstData := by kernel_rfl
theorem accept_eq : (Rows.laid_unicode_utf8_acceptRanges : DataW Unit) = Lib.acceptData := by kernel_rfl
def laid2 : List (String × DataW Unit) := [("math/bits.deBruijn32tab", Rows.laid_math_bits_deBruijn32tab), ("math/bits.deBruijn64tab", Rows.laid_math_bits_deBruijn64tab), ("internal/strconv.uint64pow10", Rows.laid_internal_strconv_uint64pow10), ("unicode/utf8.acceptRanges", Rows.laid_unicode_utf8_acceptRanges), ("strconv.ErrRange", Rows.laid_strconv_ErrRange), ("strconv.ErrSyntax", Rows.laid_strconv_ErrSyntax), ("unicode/utf8.first", Rows.laid_unicode_utf8_first)]
set_option maxRecDepth 100000 in
theorem laid_met2 (os : Os) (args : Array Value) : laidMetH Tryz.prog laid2 ((World.laidAll Tryz.prog os laid2).forCall (fun _ _ => 0) ⟨#[], args, []⟩).memory := by
 rw [MakeChecks.laidMetH_plain _ _ _ (by kernel_rfl)]
 exact laidMet_laidAll _ (by kernel_rfl) (by kernel_rfl)
theorem tabs_of_laid2 {W : World} (h : laidMetH Tryz.prog laid2 W) : Tabs W := by
 rw [MakeChecks.laidMetH_plain _ _ _ (by kernel_rfl)] at h
 have h1 := Lib.laidMet.reads h (n := "unicode/utf8.first") (d := Rows.laid_unicode_utf8_first) (by simp [laid2])
 have h2 := Lib.laidMet.reads h (n := "unicode/utf8.acceptRanges") (d := Rows.laid_unicode_utf8_acceptRanges) (by simp [laid2])
 rw [first_eq] at h1
 rw [accept_eq] at h2
 exact utf8Tabs_of_readsT tabsTypes tabsExtra h1 h2
def deb64 : List Int := [0, 1, 56, 2, 57, 49, 28, 3, 61, 58, 42, 50, 38, 29, 17, 4, 62, 47, 59, 36, 45, 43, 51, 22, 53, 39, 33, 30, 24, 18, 12, 5, 63, 55, 48, 27, 60, 41, 37, 16, 46, 35, 44, 21, 52, 32, 23, 11, 54, 26, 40, 15, 34, 20, 31, 10, 25, 14, 19, 9, 13, 8, 7, 6]
theorem deb_eq : (Rows.laid_math_bits_deBruijn64tab : DataW Unit) = Lib.tabData .u8 deb64 := by kernel_rfl
theorem deb_tab : ∀ j, j < 64 → deb64[j]? = some ((Lib.deBruijn64tab.getD j 0 : Nat) : Int) := by decide
theorem deb_len : Lib.deBruijn64tab.length = 64 := by decide
theorem deb_of_laid {W : World} (h : laidMetH Tryz.prog laid2 W) : Deb W := by
 rw [MakeChecks.laidMetH_plain _ _ _ (by kernel_rfl)] at h
 have h1 := Lib.laidMet.reads h (n := "math/bits.deBruijn64tab") (d := Rows.laid_math_bits_deBruijn64tab) (by simp [laid2])
 rw [deb_eq] at h1
 obtain ⟨g, t, cs, fuel, p, hg, hty, hvar, hd⟩ := h1
 obtain rfl := Option.some.inj ((show Tryz.prog.globalNamed "math/bits.deBruijn64tab" = some 0 by kernel_rfl).symm.trans hg)
 obtain rfl := Option.some.inj ((show (Tryz.prog.globals[0]?).map (·.type) = some 187 by kernel_rfl).symm.trans hty)
 have hcs := Lib.cells_of_tab (n := 64) Tryz.underlying187 Tryz.underlying5 (by kernel_rfl) (by kernel_rfl) hd
 intro j hj
 rw [deb_len] at hj
 have := World.var?_cell hg hvar j
 rw [this, ← Array.getElem?_toList, hcs, List.getElem?_map, deb_tab j hj]
 rfl
end Go.Proofs.YtgngaldoemopjaaGreatDoor
