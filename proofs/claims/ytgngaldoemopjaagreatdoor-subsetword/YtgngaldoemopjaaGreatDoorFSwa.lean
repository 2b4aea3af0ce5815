/- Joined: Sbv Sbk Sbl Swp Swa. -/
import Derived.Test.YtgngaldoemopjaaGreatDoorFSbw
import Derived.BigRegion
namespace Go.Proofs.YtgngaldoemopjaaGreatDoor
open Go.RowKit Go.Shelf
attribute [local go_sem] Oper.semAt_some
namespace SB
def inL (L : List Nat) (s : Int) : Bool := decide (0 ≤ s ∧ s < L.length)
def mkI (L : List Nat) (s : Int) : Nat := if inL L s then L.getD s.toNat 0 else 0
def acI (a : PA.Au) (L : List Nat) (s : Int) : Bool := inL L s && PA.acc a (L.getD s.toNat 0)
def nxI (a : PA.Au) (ms L : List Nat) (s c : Int) : Int := if inL L s ∧ 0 ≤ c ∧ c < ms.length then (L.idxOf (PA.behind a (L.getD s.toNat 0) &&& (ms.getD c.toNat 0 % 2 ^ a.pl.length)) : Int) else -1
def clI (ps : List (Int × Nat)) (r : Int) : Int := if 1114111 < r then -1 else match (ps.filter fun p => decide (p.1 ≤ r)).length with
 | 0 => -1
 | k + 1 => ((ps.getD k (0, 0)).2 : Int)
end SB
theorem cnt_len {ps : List (Int × Nat)} {r : Int} {k : Nat} (h : U.Cnt ps r k) : (ps.filter fun p => decide (p.1 ≤ r)).length = k := by
 obtain ⟨h1, h2, h3⟩ := h
 rw [← List.take_append_drop k ps, List.filter_append, List.filter_eq_self.2, List.filter_eq_nil_iff.2]
 · rw [List.append_nil, List.length_take]; omega
 · intro p hp
   obtain ⟨i, hi, rfl⟩ := List.mem_iff_getElem.1 hp
   rw [List.length_drop] at hi
   rw [List.getElem_drop]
   have := h3 (k + i) (by omega) (by omega)
   simp
   omega
 · intro p hp
   obtain ⟨i, hi, rfl⟩ := List.mem_iff_getElem.1 hp
   rw [List.length_take] at hi
   rw [List.getElem_take]
   simpa using h2 i (by omega) (by omega)
theorem elemSize70 (w : World) : (sizeOf (Tryz.prog.elem 70)).run Tryz.prog w = .ok 3 w := by kernel_rfl
section
variable {W : World} {D : Nat} {a : PA.Au} {ms : List Nat} {ps : List (Int × Nat)} {L : List Nat}
set_option maxRecDepth 100000 in
set_option maxHeartbeats 1000000 in
theorem dlen_any (h : DAt W D a ms ps L) : Calls Tryz.prog 11 #[.pointer (some ⟨D, 0, none⟩)] W fun e w' => e = .returned (.int .i64 (L.length : Int)) ∧ w' = W := by
 obtain ⟨sets, so, sc, _, c3, _⟩ := h
 go_enter Tryz.func11, Tryz.ntmps11
 go_wp2
 go_ret
 exact ⟨rfl, rfl⟩
set_option maxRecDepth 100000 in
set_option maxHeartbeats 1000000 in
theorem dcls_any (h : DAt W D a ms ps L) : Calls Tryz.prog 12 #[.pointer (some ⟨D, 0, none⟩)] W fun e w' => e = .returned (.int .i64 (ms.length : Int)) ∧ w' = W := by
 obtain ⟨sets, so, sc, hc, _, _⟩ := h
 have hl := U.clen_any hc
 clear hc
 go_enter Tryz.func12, Tryz.ntmps12
 go_wp2_with fail
 refine hl.mono ?_
 rintro e w1 ⟨rfl, rfl⟩
 clear hl
 go_wp2
 go_ret
 exact ⟨rfl, rfl⟩
set_option maxRecDepth 100000 in
set_option maxHeartbeats 1000000 in
theorem isState_any (h : DAt W D a ms ps L) (s : Int) : Calls Tryz.prog 29 #[.pointer (some ⟨D, 0, none⟩), .int .i64 s] W fun e w' => e = .returned (.bool (SB.inL L s)) ∧ w' = W := by
 obtain ⟨sets, so, sc, _, c3, _⟩ := h
 by_cases h0 : 0 ≤ s
 · by_cases h1 : s < (L.length : Int)
   · have HE : Hid (SB.inL L s = true) := hide (by unfold SB.inL; simp [h0, h1])
     go_enter Tryz.func29, Tryz.ntmps29
     go_wp2
     go_ret
     exact ⟨by rw [HE.out]; rfl, rfl⟩
   · have HE : Hid (SB.inL L s = false) := hide (by unfold SB.inL; simp [h1])
     go_enter Tryz.func29, Tryz.ntmps29
     go_wp2
     go_ret
     exact ⟨by rw [HE.out]; rfl, rfl⟩
 · have HE : Hid (SB.inL L s = false) := hide (by unfold SB.inL; simp [h0])
   go_enter Tryz.func29, Tryz.ntmps29
   go_wp2
   go_ret
   exact ⟨by rw [HE.out]; rfl, rfl⟩
set_option maxRecDepth 100000 in
set_option maxHeartbeats 1000000 in
theorem dmask_any (h : DAt W D a ms ps L) (s : Int) : Calls Tryz.prog 14 #[.pointer (some ⟨D, 0, none⟩), .int .i64 s] W fun e w' => e = .returned (.int .u64 (SB.mkI L s : Int)) ∧ w' = W := by
 have hi := isState_any h s
 obtain ⟨sets, so, sc, _, c3, hr⟩ := h
 have es := elemSize70
 by_cases hs : 0 ≤ s ∧ s < (L.length : Int)
 · have hb : SB.inL L s = true := by unfold SB.inL; simp [hs]
   rw [hb] at hi
   obtain ⟨k, rfl⟩ := Int.eq_ofNat_of_zero_le hs.1
   have hk : k < L.length := by omega
   obtain ⟨g, gr, rfl, d0, d1, d2, _⟩ := hr k hk
   have HE : Hid (SB.mkI L (k : Int) = L[k]) := hide (by unfold SB.mkI; rw [hb, if_pos rfl, Int.toNat_natCast, List.getD_eq_getElem?_getD, List.getElem?_eq_getElem hk]; rfl)
   generalize L[k] = x at *
   clear hr hs hb
   go_enter Tryz.func14, Tryz.ntmps14
   go_wp2_with fail
   refine hi.mono ?_
   rintro e w1 ⟨rfl, rfl⟩
   clear hi
   go_wp2
   go_ret
   exact ⟨by rw [HE.out]; rfl, rfl⟩
 · have hb : SB.inL L s = false := by unfold SB.inL; simpa using hs
   rw [hb] at hi
   have HE : Hid (SB.mkI L s = 0) := hide (by unfold SB.mkI; rw [hb]; rfl)
   clear hr hs hb c3
   go_enter Tryz.func14, Tryz.ntmps14
   go_wp2_with fail
   refine hi.mono ?_
   rintro e w1 ⟨rfl, rfl⟩
   clear hi
   go_wp2
   go_ret
   exact ⟨by rw [HE.out]; rfl, rfl⟩
set_option maxRecDepth 100000 in
set_option maxHeartbeats 1000000 in
theorem dacc_any (h : DAt W D a ms ps L) (s : Int) : Calls Tryz.prog 15 #[.pointer (some ⟨D, 0, none⟩), .int .i64 s] W fun e w' => e = .returned (.bool (SB.acI a L s)) ∧ w' = W := by
 have hi := isState_any h s
 obtain ⟨sets, so, sc, _, c3, hr⟩ := h
 have es := elemSize70
 by_cases hs : 0 ≤ s ∧ s < (L.length : Int)
 · have hb : SB.inL L s = true := by unfold SB.inL; simp [hs]
   rw [hb] at hi
   obtain ⟨k, rfl⟩ := Int.eq_ofNat_of_zero_le hs.1
   have hk : k < L.length := by omega
   obtain ⟨g, gr, rfl, d0, d1, d2, _⟩ := hr k hk
   have HE : Hid (SB.acI a L (k : Int) = PA.acc a L[k]) := hide (by unfold SB.acI; rw [hb, Bool.true_and, Int.toNat_natCast, List.getD_eq_getElem?_getD, List.getElem?_eq_getElem hk]; rfl)
   generalize PA.acc a L[k] = x at *
   clear hr hs hb d0 d2
   go_enter Tryz.func15, Tryz.ntmps15
   go_wp2_with fail
   refine hi.mono ?_
   rintro e w1 ⟨rfl, rfl⟩
   clear hi
   go_wp2
   go_ret
   exact ⟨by rw [HE.out]; rfl, rfl⟩
 · have hb : SB.inL L s = false := by unfold SB.inL; simpa using hs
   rw [hb] at hi
   have HE : Hid (SB.acI a L s = false) := hide (by unfold SB.acI; rw [hb]; rfl)
   clear hr hs hb c3
   go_enter Tryz.func15, Tryz.ntmps15
   go_wp2_with fail
   refine hi.mono ?_
   rintro e w1 ⟨rfl, rfl⟩
   clear hi
   go_wp2
   go_ret
   exact ⟨by rw [HE.out]; rfl, rfl⟩
set_option maxRecDepth 100000 in
set_option maxHeartbeats 1000000 in
theorem dnext_any (h : DAt W D a ms ps L) (s c : Int) : Calls Tryz.prog 13 #[.pointer (some ⟨D, 0, none⟩), .int .i64 s, .int .i64 c] W fun e w' => e = .returned (.int .i64 (SB.nxI a ms L s c)) ∧ w' = W := by
 have hi := isState_any h s
 have hcl := dcls_any h
 obtain ⟨sets, so, sc, _, c3, hr⟩ := h
 have es := elemSize70
 have es2 := elemSize45
 by_cases hs : 0 ≤ s ∧ s < (L.length : Int)
 · have hb : SB.inL L s = true := by unfold SB.inL; simp [hs]
   rw [hb] at hi
   by_cases h0 : 0 ≤ c
   · by_cases h1 : c < (ms.length : Int)
     · obtain ⟨k, rfl⟩ := Int.eq_ofNat_of_zero_le hs.1
       obtain ⟨q, rfl⟩ := Int.eq_ofNat_of_zero_le h0
       have hk : k < L.length := by omega
       have hq : q < ms.length := by omega
       obtain ⟨g, gr, rfl, d0, d1, d2, d3⟩ := hr k hk
       have d4 := d3 q hq
       have HE : Hid (SB.nxI a ms L (k : Int) (q : Int) = (L.idxOf (PA.behind a L[k] &&& (ms[q] % 2 ^ a.pl.length)) : Int)) := hide (by
         unfold SB.nxI
         rw [if_pos ⟨hb, by omega, by omega⟩, Int.toNat_natCast, Int.toNat_natCast, List.getD_eq_getElem?_getD, List.getElem?_eq_getElem hk, List.getD_eq_getElem?_getD, List.getElem?_eq_getElem hq]
         rfl)
       generalize L.idxOf (PA.behind a L[k] &&& (ms[q] % 2 ^ a.pl.length)) = x at *
       clear hr hs hb d0 d1 d3 h0 h1
       go_enter Tryz.func13, Tryz.ntmps13
       go_wp2_with fail
       refine hi.mono ?_
       rintro e w1 ⟨rfl, rfl⟩
       clear hi
       go_wp2_with fail
       refine hcl.mono ?_
       rintro e w2 ⟨rfl, rfl⟩
       clear hcl
       go_wp2
       go_ret
       exact ⟨by rw [HE.out]; rfl, rfl⟩
     · have HE : Hid (SB.nxI a ms L s c = -1) := hide (by unfold SB.nxI; rw [if_neg (fun h => h1 h.2.2)])
       clear hr hs hb c3
       go_enter Tryz.func13, Tryz.ntmps13
       go_wp2_with fail
       refine hi.mono ?_
       rintro e w1 ⟨rfl, rfl⟩
       clear hi
       go_wp2_with fail
       refine hcl.mono ?_
       rintro e w2 ⟨rfl, rfl⟩
       clear hcl
       go_wp2
       go_ret
       exact ⟨by rw [HE.out]; rfl, rfl⟩
   · have HE : Hid (SB.nxI a ms L s c = -1) := hide (by unfold SB.nxI; rw [if_neg (fun h => h0 h.2.1)])
     clear hr hs hb c3 hcl
     go_enter Tryz.func13, Tryz.ntmps13
     go_wp2_with fail
     refine hi.mono ?_
     rintro e w1 ⟨rfl, rfl⟩
     clear hi
     go_wp2
     go_ret
     exact ⟨by rw [HE.out]; rfl, rfl⟩
 · have hb : SB.inL L s = false := by unfold SB.inL; simpa using hs
   rw [hb] at hi
   have HE : Hid (SB.nxI a ms L s c = -1) := hide (by unfold SB.nxI; rw [if_neg (fun h => by rw [hb] at h; cases h.1)])
   clear hr hs hb c3 hcl
   go_enter Tryz.func13, Tryz.ntmps13
   go_wp2_with fail
   refine hi.mono ?_
   rintro e w1 ⟨rfl, rfl⟩
   clear hi
   go_wp2
   go_ret
   exact ⟨by rw [HE.out]; rfl, rfl⟩
set_option maxRecDepth 100000 in
set_option maxHeartbeats 1000000 in
theorem dclass_any (h : DAt W D a ms ps L) (hl : ps.length ≤ 10000000) (hs : ps.Pairwise fun a b => a.1 < b.1) (r : Int) : Calls Tryz.prog 18 #[.pointer (some ⟨D, 0, none⟩), .int .i32 r] W fun e w' => e = .returned (.int .i64 (SB.clI ps r)) ∧ Below W.heap.size W w' := by
 obtain ⟨sets, so, sc, hc, _, _⟩ := h
 have ho := U.cof_any hc hl hs r
 clear hc
 go_enter Tryz.func18, Tryz.ntmps18
 go_wp2_with fail
 refine ho.mono ?_
 rintro e w1 ⟨q, rfl, hb, hq⟩
 have HE : Hid (SB.clI ps r = q) := hide (by
   unfold SB.clI
   rcases hq with ⟨h1, rfl⟩ | ⟨h1, h2, rfl⟩ | ⟨h1, k, hk, h2, rfl⟩
   · rw [if_pos h1]
   · rw [if_neg (by omega), cnt_len h2]
   · rw [if_neg (by omega), cnt_len h2]
     simp [List.getD_eq_getElem?_getD, List.getElem?_eq_getElem hk])
 clear ho hq hs
 go_wp2
 go_ret
 exact ⟨by rw [HE.out]; rfl, hb⟩
set_option maxRecDepth 100000 in
set_option maxHeartbeats 1000000 in
theorem dstep_any (h : DAt W D a ms ps L) (hl : ps.length ≤ 10000000) (hs : ps.Pairwise fun a b => a.1 < b.1) (s r : Int) : Calls Tryz.prog 17 #[.pointer (some ⟨D, 0, none⟩), .int .i64 s, .int .i32 r] W fun e w' => e = .returned (.int .i64 (SB.nxI a ms L s (SB.clI ps r))) ∧ Below W.heap.size W w' := by
 have h1 := dclass_any h hl hs r
 have h2 := fun W' hb => dnext_any (h.later (W' := W') hb) s (SB.clI ps r)
 generalize SB.clI ps r = c at *
 clear h hs hl
 go_enter Tryz.func17, Tryz.ntmps17
 go_wp2_with fail
 refine h1.mono ?_
 rintro e w1 ⟨rfl, hb⟩
 have h3 := h2 w1 hb
 obtain ⟨x, hx⟩ : ∃ x, SB.nxI a ms L s c = x := ⟨_, rfl⟩
 rw [hx] at h3
 have HX := hide hx
 clear hx
 clear h1 h2
 go_wp2_with fail
 refine h3.mono ?_
 rintro e w2 ⟨rfl, rfl⟩
 clear h3
 go_wp2
 go_ret
 exact ⟨by rw [HX.out]; rfl, hb⟩
end
end Go.Proofs.YtgngaldoemopjaaGreatDoor
namespace Go.Proofs.YtgngaldoemopjaaGreatDoor
open Go.RowKit Go.Shelf
open E (T isS)
attribute [local go_sem] Oper.semAt_some
namespace SB
section
variable {bh : Nat → Nat} {fs : List Nat} {k : Nat} (hj : ∀ j < k, j < (gr bh fs j).length)
include hj
theorem gr_at {j : Nat} (h : j < k) (h2 : j < (gr bh fs k).length) : (gr bh fs j).getD j 0 = (gr bh fs k)[j] := by
 obtain ⟨r, hr⟩ := gr_le bh fs (Nat.le_of_lt h)
 rw [List.getD_eq_getElem?_getD, List.getElem?_eq_getElem (hj j h), Option.getD_some]
 have e : (gr bh fs k)[j]? = (gr bh fs j)[j]? := by rw [← hr, List.getElem?_append_left (hj j h)]
 rw [List.getElem?_eq_getElem h2, List.getElem?_eq_getElem (hj j h)] at e
 exact (Option.some.inj e).symm
theorem gr_step (hk : (gr bh fs k).length = k) {j : Nat} (h : j < k) {f : Nat} (hf : f ∈ fs) : bh ((gr bh fs k)[j]'(by omega)) &&& f ∈ gr bh fs k := by
 rw [← gr_at hj h (by omega)]
 exact (gr_le bh fs (show j + 1 ≤ k by omega)).subset (nx_mem _ fs _ f hf)
end
theorem gr_head (bh : Nat → Nat) (fs : List Nat) (k : Nat) (h : 0 < (gr bh fs k).length) : (gr bh fs k)[0] = PA.bg := by
 obtain ⟨r, hr⟩ := gr_le bh fs (Nat.zero_le k)
 have e : (gr bh fs k)[0]? = some PA.bg := by rw [← hr]; rfl
 rw [List.getElem?_eq_getElem h] at e
 exact Option.some.inj e
end SB
namespace PA
def tA1 : T := .mk 1 0 [(97, 97)] [] []
theorem parseA : E.parse [39, 97] = .ok tA1 := by rfl
theorem tA1_ok : treeC tA1 = true := by rfl
def aA : Au := ⟨[([(97, 97)], 0)], ⟨1, 1, false⟩⟩
theorem autoA : auto tA1 = aA := by rfl
end PA
theorem knP {ls : List U.L3} (h : ls.map (·.2.2) = [[(97, 97)]]) : U.pieces (U.endsZ ls) = [((0, 96), 0), ((97, 97), 1), ((98, 1114111), 0)] := by
 have e1 : U.TOf ls = [[(97, 97)]] := h
 have e2 : ls.length = 1 := by have := congrArg List.length h; simpa using this
 have e3 : U.S.set [(97, 97)] = [(97, 97)] := U.S.set_self (U.S.canon_one (by rfl))
 have e4 : U.endsL ls = [(97, 0), (98, 0)] := by
   unfold U.endsL U.evT
   rw [e1, e2]
   show U.evR 0 (U.S.set [(97, 97)]) ++ [] = _
   rw [e3]
   rfl
 unfold U.endsZ
 rw [e4]
 rfl
theorem knM : U.msOf [((0, 96), 0), ((97, 97), 1), ((98, 1114111), 0)] = [0, 1] := by rfl
theorem knQ : U.psOf [0, 1] [((0, 96), 0), ((97, 97), 1), ((98, 1114111), 0)] = [(0, 0), (97, 1), (98, 0)] := by rfl
theorem knG : ∀ k, SB.gr (PA.behind PA.aA) [0, 1] (k + 1) = [PA.bg, 0, 1]
 | 0 => by kernel_rfl
 | 1 => by kernel_rfl
 | 2 => by kernel_rfl
 | k + 3 => by
   rw [SB.gr, knG (k + 2)]
   rw [List.getD_eq_getElem?_getD, List.getElem?_eq_none (by simp), Option.getD_none, PA.behind_zero]
   rfl
def AnsF (t : T) (w : World) (e : Ending) (W : World) : Prop :=
 Below w.heap.size w W ∧ ((¬ (PA.Acc t ∧ PA.ct t ≤ 60) ∧ ∃ f : Int, f ≠ 0 ∧ e = .returned (.tuple #[.pointer none, .int .i64 f])) ∨
   (PA.Acc t ∧ PA.ct t ≤ 60 ∧ ∃ W1, AnsDN (PA.auto t) W1 e W))
set_option maxRecDepth 100000 in
set_option maxHeartbeats 4000000 in
theorem dfa_any (t : T) (d : ND) (w : World) (htab : Tabs w) (hdeb : Deb w) (hT : TR w (fun _ => True) t d.v) (hps : (E.pre t t).length ≤ 1000000) (hnb : ∀ p ∈ E.pre t t, E.NodeB p.1) : Calls Tryz.prog 10 #[d.v] w (AnsF t w) := by
 have b1 := al1 w (.cells #[.int .i64 d.k, .int .i64 d.a, .slice d.sp d.sl d.sc, .string d.n, .slice d.kp d.kl d.kc] 25)
 have n1 := heap_alloc_new w (.cells #[.int .i64 d.k, .int .i64 d.a, .slice d.sp d.sl d.sc, .string d.n, .slice d.kp d.kl d.kc] 25)
 obtain ⟨X, hX⟩ : ∃ X, w.alloc (.cells #[.int .i64 d.k, .int .i64 d.a, .slice d.sp d.sl d.sc, .string d.n, .slice d.kp d.kl d.kc] 25) = X := ⟨_, rfl⟩
 rw [hX] at b1 n1
 obtain ⟨q0, q1, q2, q3, q4⟩ := cells_five n1
 have hN := new_any t d X (htab.later b1) (hdeb.later b1) (TR.later (fun k hk => b1.block k hk) _ hT) hps hnb
 have HD := hide hdeb
 unfold ND.v at hN ⊢
 clear hT htab hdeb n1 hps hnb
 go_enter Tryz.func10, Tryz.ntmps10
 go_wp2_with fail
 refine hN.mono ?_
 rintro e W1 ⟨hb1, ⟨h1, rfl⟩ | ⟨h1, h2, rfl⟩ | ⟨h1, h2, A, rfl, hA⟩⟩
 · have HF := hide (show AnsF t w (.returned (.tuple #[.pointer none, .int .i64 70])) W1 from ⟨nx b1 hb1, .inl ⟨fun h => h1 h.1, 70, by decide, rfl⟩⟩)
   clear hN h1 q0 q1 q2 q3 q4 hX
   go_wp2
   exact bodyPost_ret (v := .tuple #[.pointer none, .int .i64 70]) (by simp [results, Tryz.results10, go_sem]) rfl HF.out
 · have HF := hide (show AnsF t w (.returned (.tuple #[.pointer none, .int .i64 72])) W1 from ⟨nx b1 hb1, .inl ⟨fun h => by omega, 72, by decide, rfl⟩⟩)
   clear hN h1 h2 q0 q1 q2 q3 q4 hX
   go_wp2
   exact bodyPost_ret (v := .tuple #[.pointer none, .int .i64 72]) (by simp [results, Tryz.results10, go_sem]) rfl HF.out
 · have B1 := nx b1 hb1
   have hS := snew_any hA (PA.good_auto h1 h2) (HD.out.later B1)
   have HP := hide (And.intro h1 h2)
   clear hN h1 h2 q0 q1 q2 q3 q4 hX hA
   go_wp2_with fail
   refine hS.mono ?_
   intro e W2 hans
   have HF := hide (show AnsF t w e W2 from ⟨nx B1 hans.1, .inr ⟨HP.out.1, HP.out.2, W1, hans⟩⟩)
   obtain ⟨hb2, ls, hls, ⟨rfl, _⟩ | ⟨D, k, rfl, _⟩⟩ := hans
   · clear hS hls
     go_wp2
     exact bodyPost_ret (v := .tuple #[.pointer none, .int .i64 140]) (by simp [results, Tryz.results10, go_sem]) rfl HF.out
   · clear hS hls
     go_wp2
     exact bodyPost_ret (v := .tuple #[.pointer (some ⟨D, 0, none⟩), .int .i64 0]) (by simp [results, Tryz.results10, go_sem]) rfl HF.out
theorem ansF_A {w W : World} {e : Ending} (h : AnsF PA.tA1 w e W) : Below w.heap.size w W ∧ ∃ D, e = .returned (.tuple #[.pointer (some ⟨D, 0, none⟩), .int .i64 0]) ∧ DAt W D PA.aA [0, 1] [(0, 0), (97, 1), (98, 0)] [PA.bg, 0, 1] := by
 obtain ⟨hb, ⟨h1, _⟩ | ⟨h1, h2, W1, hb2, ls, hls, h3⟩⟩ := h
 · exact absurd ⟨(PA.treeC_ok PA.tA1_ok).1, by decide⟩ h1
 · rw [PA.autoA] at hls h3
   have hp : pcs ls = [((0, 96), 0), ((97, 97), 1), ((98, 1114111), 0)] := knP hls
   rw [hp, knM] at h3
   have hf : SB.fsOf PA.aA [0, 1] = [0, 1] := by rfl
   rw [hf] at h3
   rcases h3 with ⟨rfl, k, h4, _, h5⟩ | ⟨D, k, rfl, hk, _, _, hD⟩
   · rw [knG] at h5
     exact absurd h5 (by simp)
   · cases k with
     | zero => rw [SB.gr] at hk; exact absurd hk (by simp)
     | succ k =>
       rw [knG] at hD
       rw [knQ] at hD
       exact ⟨hb, D, rfl, hD⟩
end Go.Proofs.YtgngaldoemopjaaGreatDoor
namespace Go.Proofs.YtgngaldoemopjaaGreatDoor
open Go.RowKit Go.Shelf
open E (T isS)
attribute [local go_sem] Oper.semAt_some
set_option maxRecDepth 100000 in
set_option maxHeartbeats 4000000 in
theorem known14_any (w : World) (ht : Tabs w) (hd : Deb w) : Calls Tryz.prog 8 #[] w fun e w' => e = .returned (.bool true) ∧ Below w.heap.size w w' := by
 have h1 := parse_light ⟨#[39, 97]⟩ (by decide) (light_of (by kernel_rfl)) w ht
 rw [show E.parse (bts ⟨#[39, 97]⟩) = _ from PA.parseA] at h1
 obtain ⟨hac, hnb, hps⟩ := PA.treeC_ok PA.tA1_ok
 go_enter Tryz.func8, Tryz.ntmps8
 go_wp2_with fail
 refine h1.mono ?_
 intro e w1 ha
 obtain ⟨hb1, d, rfl, htr⟩ := ha.ok
 have a2 := al1 w1 (.cells #[.int .i64 d.k, .int .i64 d.a, .slice d.sp d.sl d.sc, .string d.n, .slice d.kp d.kl d.kc] 25)
 have n2 := heap_alloc_new w1 (.cells #[.int .i64 d.k, .int .i64 d.a, .slice d.sp d.sl d.sc, .string d.n, .slice d.kp d.kl d.kc] 25)
 have B2 := nx hb1 a2
 have hN := dfa_any PA.tA1 d (w1.alloc (.cells #[.int .i64 d.k, .int .i64 d.a, .slice d.sp d.sl d.sc, .string d.n, .slice d.kp d.kl d.kc] 25)) (ht.later B2) (hd.later B2) (TR.later (fun k hk => a2.block k hk) _ htr) hps hnb
 clear h1 ha htr a2 n2
 unfold ND.v at hN ⊢
 go_wp2_with fail
 refine hN.mono ?_
 intro e W3 hw
 obtain ⟨hb3, D, rfl, hD⟩ := ansF_A hw
 have B3 := nx B2 hb3
 clear hN hw
 have c1 : Calls Tryz.prog 11 #[.pointer (some ⟨D, 0, none⟩)] W3 fun e W => e = .returned (.int .i64 3) ∧ W = W3 := dlen_any hD
 have c2 : Calls Tryz.prog 12 #[.pointer (some ⟨D, 0, none⟩)] W3 fun e W => e = .returned (.int .i64 2) ∧ W = W3 := dcls_any hD
 have c3 : Calls Tryz.prog 17 #[.pointer (some ⟨D, 0, none⟩), .int .i64 0, .int .i32 97] W3 fun e W => e = .returned (.int .i64 2) ∧ Below W3.heap.size W3 W := by
   have := dstep_any hD (by decide) (by decide) 0 97
   rw [show SB.nxI PA.aA [0, 1] [PA.bg, 0, 1] 0 (SB.clI [(0, 0), (97, 1), (98, 0)] 97) = 2 by kernel_rfl] at this
   exact this
 go_wp2_with (first | (refine c1.mono ?_; rintro e w' ⟨rfl, rfl⟩) | (refine c2.mono ?_; rintro e w' ⟨rfl, rfl⟩))
 refine c3.mono ?_
 rintro e W4 ⟨rfl, hb4⟩
 have hD4 := hD.later hb4
 have B4 := nx B3 hb4
 clear c1 c2 c3 hD hb4 B3
 have c4 : Calls Tryz.prog 15 #[.pointer (some ⟨D, 0, none⟩), .int .i64 2] W4 fun e W => e = .returned (.bool true) ∧ W = W4 := by
   have := dacc_any hD4 2
   rw [show SB.acI PA.aA [PA.bg, 0, 1] 2 = true by kernel_rfl] at this
   exact this
 have c5 : Calls Tryz.prog 15 #[.pointer (some ⟨D, 0, none⟩), .int .i64 0] W4 fun e W => e = .returned (.bool false) ∧ W = W4 := by
   have := dacc_any hD4 0
   rw [show SB.acI PA.aA [PA.bg, 0, 1] 0 = false by kernel_rfl] at this
   exact this
 have c6 : Calls Tryz.prog 14 #[.pointer (some ⟨D, 0, none⟩), .int .i64 0] W4 fun e W => e = .returned (.int .u64 9223372036854775808) ∧ W = W4 := by
   have := dmask_any hD4 0
   rw [show (SB.mkI [PA.bg, 0, 1] 0 : Int) = 9223372036854775808 by kernel_rfl] at this
   exact this
 have c7 : Calls Tryz.prog 13 #[.pointer (some ⟨D, 0, none⟩), .int .i64 0, .int .i64 5] W4 fun e W => e = .returned (.int .i64 (-1)) ∧ W = W4 := by
   have := dnext_any hD4 0 5
   rw [show SB.nxI PA.aA [0, 1] [PA.bg, 0, 1] 0 5 = -1 by kernel_rfl] at this
   exact this
 clear hD4
 go_wp2_with fail
 refine c4.mono ?_
 rintro e w' ⟨rfl, rfl⟩
 clear c4
 go_wp2_with fail
 refine c5.mono ?_
 rintro e w' ⟨rfl, rfl⟩
 clear c5
 go_wp2_with fail
 refine c6.mono ?_
 rintro e w' ⟨rfl, rfl⟩
 clear c6
 go_wp2_with fail
 refine c7.mono ?_
 rintro e w' ⟨rfl, rfl⟩
 clear c7
 go_wp2
 go_ret
 exact ⟨rfl, B4⟩
end Go.Proofs.YtgngaldoemopjaaGreatDoor
namespace Go.Proofs.YtgngaldoemopjaaGreatDoor
open Go.RowKit Go.Shelf
namespace SB
theorem and_pow (i f : Nat) : 2 ^ i &&& f = if f.testBit i then 2 ^ i else 0 := by
 refine Nat.eq_of_testBit_eq fun j => ?_
 rw [Nat.testBit_and, Nat.testBit_two_pow]
 by_cases h : i = j
 · subst h
   cases f.testBit i <;> simp
 · rw [decide_eq_false h, Bool.false_and]
   split
   · rw [Nat.testBit_two_pow, decide_eq_false h]
   · simp
theorem nx_same (i : Nat) : ∀ (fs L : List Nat), 0 ∈ L → 2 ^ i ∈ L → nx (2 ^ i) fs L = L
 | [], _, _, _ => rfl
 | f :: fs, L, h0, h1 => by
   show nx (2 ^ i) fs (num L (2 ^ i &&& f)) = L
   have : num L (2 ^ i &&& f) = L := by
     rw [and_pow]
     cases f.testBit i
     · simp [num, h0]
     · simp [num, h1]
   rw [this]
   exact nx_same i fs L h0 h1
theorem nx_one (i : Nat) : ∀ (fs L : List Nat), 0 ∈ L → 2 ^ i ∉ L → (∃ f ∈ fs, f.testBit i = true) → nx (2 ^ i) fs L = L ++ [2 ^ i]
 | [], _, _, _, h => by obtain ⟨f, hf, _⟩ := h; cases hf
 | f :: fs, L, h0, h1, h => by
   show nx (2 ^ i) fs (num L (2 ^ i &&& f)) = _
   rw [and_pow]
   cases hb : f.testBit i with
   | true =>
     rw [if_pos rfl, num, if_neg h1]
     exact nx_same i fs _ (by simp [h0]) (by simp)
   | false =>
     rw [if_neg (by decide), num, if_pos h0]
     refine nx_one i fs L h0 h1 ?_
     obtain ⟨g, hg, hgb⟩ := h
     rcases List.mem_cons.1 hg with rfl | hg
     · rw [hb] at hgb; cases hgb
     · exact ⟨g, hg, hgb⟩
theorem nx_nil {L : List Nat} (h : 0 ∈ L) : ∀ fs, nx 0 fs L = L
 | [] => rfl
 | f :: fs => by
   show nx 0 fs (num L (0 &&& f)) = L
   rw [Nat.zero_and, num, if_pos h]
   exact nx_nil h fs
def wd (n : Nat) : List Nat := PA.bg :: 0 :: (List.range n).map fun i => 2 ^ i
theorem wd_succ (n : Nat) : wd (n + 1) = wd n ++ [2 ^ n] := by
 unfold wd
 rw [List.range_succ, List.map_append]
 rfl
theorem wd_len (n : Nat) : (wd n).length = n + 2 := by simp [wd]
theorem wd_zero (n : Nat) : 0 ∈ wd n := by simp [wd]
theorem wd_out {n i : Nat} (h : n ≤ i) (hi : i < 63) : 2 ^ i ∉ wd n := by
 unfold wd
 rw [List.mem_cons, List.mem_cons, List.mem_map]
 rintro (e | e | ⟨j, hj, e⟩)
 · have h1 : (2 : Nat) ^ i < 2 ^ 63 := Nat.pow_lt_pow_right (by decide) hi
   rw [e] at h1
   exact absurd h1 (by decide)
 · have := Nat.two_pow_pos i
   omega
 · have := List.mem_range.1 hj
   have h1 : (2 : Nat) ^ j < 2 ^ i := Nat.pow_lt_pow_right (by decide) (by omega)
   omega
theorem gr_word {bh : Nat → Nat} {fs : List Nat} {n : Nat} (hn : 1 ≤ n) (hn2 : n ≤ 60) (h0 : bh PA.bg = 1) (hz : bh 0 = 0) (hs : ∀ i < n, bh (2 ^ i) = if i + 1 < n then 2 ^ (i + 1) else 0)
   (hf : ∃ r, fs = 0 :: r) (hb : ∀ i < n, ∃ f ∈ fs, f.testBit i = true) : ∀ k, 1 ≤ k → gr bh fs k = wd (min n (max 1 (k - 1))) := by
 obtain ⟨r, rfl⟩ := hf
 have g1 : gr bh (0 :: r) 1 = wd 1 := by
   show nx (bh PA.bg) (0 :: r) [PA.bg] = _
   rw [h0]
   show nx (2 ^ 0) r (num [PA.bg] (2 ^ 0 &&& 0)) = _
   rw [Nat.and_zero, num, if_neg (by decide)]
   obtain ⟨f, hf, hfb⟩ := hb 0 (by omega)
   refine nx_one 0 r _ (by simp) (by decide) ⟨f, ?_, hfb⟩
   rcases List.mem_cons.1 hf with rfl | hf
   · simp at hfb
   · exact hf
 intro k hk
 induction k with
 | zero => omega
 | succ k ih =>
   by_cases hk0 : k = 0
   · subst hk0
     rw [g1, show min n (max 1 (0 + 1 - 1)) = 1 by omega]
   · have ih := ih (by omega)
     show nx (bh ((gr bh (0 :: r) k).getD k 0)) (0 :: r) (gr bh (0 :: r) k) = _
     rw [ih]
     by_cases h1 : k = 1
     · subst h1
       rw [show min n (max 1 (1 - 1)) = 1 by omega, show min n (max 1 (1 + 1 - 1)) = 1 by omega]
       show nx (bh 0) _ _ = _
       rw [hz]
       exact nx_nil (wd_zero _) _
     · by_cases hkn : k - 1 < n
       · rw [show min n (max 1 (k - 1)) = k - 1 by omega, show min n (max 1 (k + 1 - 1)) = k by omega]
         have e : (wd (k - 1)).getD k 0 = 2 ^ (k - 2) := by
           obtain ⟨q, rfl⟩ : ∃ q, k = q + 2 := ⟨k - 2, by omega⟩
           show (PA.bg :: 0 :: (List.range (q + 2 - 1)).map fun i => 2 ^ i).getD (q + 2) 0 = _
           simp
         rw [e, hs (k - 2) (by omega), show k - 2 + 1 = k - 1 by omega, if_pos hkn]
         rw [nx_one (k - 1) _ _ (wd_zero _) (wd_out (Nat.le_refl _) (by omega)) (hb (k - 1) hkn), ← wd_succ, show k - 1 + 1 = k by omega]
       · rw [show min n (max 1 (k - 1)) = n by omega, show min n (max 1 (k + 1 - 1)) = n by omega]
         have e0 : bh ((wd n).getD k 0) = 0 := by
           by_cases e : k = n + 1
           · subst e
             obtain ⟨q, rfl⟩ : ∃ q, n = q + 1 := ⟨n - 1, by omega⟩
             have e : (wd (q + 1)).getD (q + 1 + 1) 0 = 2 ^ q := by
               show (PA.bg :: 0 :: (List.range (q + 1)).map fun i => 2 ^ i).getD (q + 1 + 1) 0 = _
               simp
             rw [e, hs q (by omega), if_neg (by omega)]
           · rw [List.getD_eq_getElem?_getD, List.getElem?_eq_none (by rw [wd_len]; omega), Option.getD_none, hz]
         rw [e0]
         exact nx_nil (wd_zero _) _
end SB
end Go.Proofs.YtgngaldoemopjaaGreatDoor
namespace Go.Proofs.YtgngaldoemopjaaGreatDoor
open Go.RowKit Go.Shelf
open E (T isS)
namespace PA
inductive IsW : List Int → T → Prop
 | one (c a : Int) : IsW [c] (.mk 1 a [(c, c)] [] [])
 | snoc {cs : List Int} {t : T} (c a b : Int) : IsW cs t → IsW (cs ++ [c]) (.mk 4 a [] [] [t, .mk 1 b [(c, c)] [] []])
def plW (cs : List Int) : List Pl := cs.mapIdx fun i c => ([(c, c)], if i + 1 < cs.length then 2 ^ (i + 1) else 0)
theorem plW_snoc {cs : List Int} (h : 1 ≤ cs.length) (c : Int) : join (2 ^ (cs.length - 1)) (2 ^ cs.length) (plW cs ++ [([(c, c)], 0)]) = plW (cs ++ [c]) := by
 refine List.ext_getElem? fun i => ?_
 unfold join plW
 rw [List.getElem?_mapIdx, List.getElem?_mapIdx]
 rcases Nat.lt_trichotomy i cs.length with hi | hi | hi
 · rw [List.getElem?_append_left (by rw [List.length_mapIdx]; exact hi), List.getElem?_mapIdx, List.getElem?_append_left hi, List.getElem?_eq_getElem hi]
   simp only [Option.map_some, List.length_append, List.length_cons, List.length_nil]
   rw [Nat.testBit_two_pow]
   by_cases e : cs.length - 1 = i
   · rw [decide_eq_true e, if_pos rfl, if_neg (by omega), if_pos (by omega), Nat.zero_or, show i + 1 = cs.length by omega]
   · rw [decide_eq_false e, if_neg (by decide), if_pos (by omega), if_pos (by omega)]
 · subst hi
   rw [List.getElem?_append_right (by rw [List.length_mapIdx]; omega), List.length_mapIdx, Nat.sub_self, List.getElem?_append_right (Nat.le_refl _), Nat.sub_self]
   simp only [List.getElem?_cons_zero, Option.map_some, List.length_append, List.length_cons, List.length_nil]
   rw [Nat.testBit_two_pow, decide_eq_false (by omega), if_neg (by decide), if_neg (by omega)]
 · rw [List.getElem?_eq_none (by rw [List.length_append, List.length_mapIdx]; simp; omega), List.getElem?_eq_none (by simp; omega)]
   rfl
theorem isW_len {cs : List Int} {t : T} (h : IsW cs t) : 1 ≤ cs.length := by
 cases h <;> simp
theorem isW_add {cs : List Int} {t : T} (h : IsW cs t) : add t [] = (plW cs, ⟨1, 2 ^ (cs.length - 1), false⟩) := by
 induction h with
 | one c a =>
   rw [add_mk]
   rfl
 | @snoc cs t c a b hw ih =>
   have hl := isW_len hw
   have hpl : (plW cs).length = cs.length := by unfold plW; rw [List.length_mapIdx]
   rw [add_mk]
   have h1 : ([t, T.mk 1 b [(c, c)] [] []].map add).getD 0 nil = add t := rfl
   have h2 : ([t, T.mk 1 b [(c, c)] [] []].map add).getD 1 nil = add (T.mk 1 b [(c, c)] [] []) := rfl
   rw [h1, h2]
   unfold step
   rw [if_neg (by decide), if_pos rfl, ih]
   have h3 : add (T.mk 1 b [(c, c)] [] []) (plW cs) = (plW cs ++ [([(c, c)], 0)], ⟨2 ^ (plW cs).length, 2 ^ (plW cs).length, false⟩) := by rw [add_mk]; rfl
   simp only [h3, hpl]
   rw [plW_snoc hl]
   unfold ahead
   simp
theorem isW_auto {cs : List Int} {t : T} (h : IsW cs t) : auto t = ⟨plW cs, ⟨1, 2 ^ (cs.length - 1), false⟩⟩ := by
 unfold auto
 rw [isW_add h]
end PA
end Go.Proofs.YtgngaldoemopjaaGreatDoor
