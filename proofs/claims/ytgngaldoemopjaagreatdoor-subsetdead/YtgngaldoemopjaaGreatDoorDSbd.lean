/- Joined: Sbv Sbk Sbl Sbd. -/
import Derived.Test.YtgngaldoemopjaaGreatDoorDSbw
namespace Go.Proofs.YtgngaldoemopjaaGreatDoor
open Go.RowKit Go.Shelf
attribute [local go_sem] Oper.semAt_some
namespace SB
def inL (L : List Nat) (s : Int) : Bool := decide (0 ≤ s ∧ s < L.length)
def mkI (L : List Nat) (s : Int) : Nat := if inL L s then L.getD s.toNat 0 else 0
def acI (a : PA.Au) (L : List Nat) (s : Int) : Bool := inL L s && PA.acc a (L.getD s.toNat 0)
def nxI (a : PA.Au) (ms L : List Nat) (s c : Int) : Int := if inL L s ∧ 0 ≤ c ∧ c < ms.length then (L.idxOf (PA.behind a (L.getD s.toNat 0) &&& (ms.getD c.toNat 0 % 2 ^ a.pl.length)) : Int) else -1
def clI (ps : List (Int × Nat)) (r : Int) : Int := if 1114111 < r then -1 else match (ps.filter fun p => decide (p.1 ≤ r)).length with
 | 0 => -1
 | k + 1 => ((ps.getD k (0, 0)).2 : Int)
end SB
theorem cnt_len {ps : List (Int × Nat)} {r : Int} {k : Nat} (h : U.Cnt ps r k) : (ps.filter fun p => decide (p.1 ≤ r)).length = k := by
 obtain ⟨h1, h2, h3⟩ := h
 rw [← List.take_append_drop k ps, List.filter_append, List.filter_eq_self.2, List.filter_eq_nil_iff.2]
 · rw [List.append_nil, List.length_take]; omega
 · intro p hp
   obtain ⟨i, hi, rfl⟩ := List.mem_iff_getElem.1 hp
   rw [List.length_drop] at hi
   rw [List.getElem_drop]
   have := h3 (k + i) (by omega) (by omega)
   simp
   omega
 · intro p hp
   obtain ⟨i, hi, rfl⟩ := List.mem_iff_getElem.1 hp
   rw [List.length_take] at hi
   rw [List.getElem_take]
   simpa using h2 i (by omega) (by omega)
theorem elemSize70 (w : World) : (sizeOf (Tryz.prog.elem 70)).run Tryz.prog w = .ok 3 w := by kernel_rfl
section
variable {W : World} {D : Nat} {a : PA.Au} {ms : List Nat} {ps : List (Int × Nat)} {L : List Nat}
set_option maxRecDepth 100000 in
set_option maxHeartbeats 1000000 in
theorem dlen_any (h : DAt W D a ms ps L) : Calls Tryz.prog 11 #[.pointer (some ⟨D, 0, none⟩)] W fun e w' => e = .returned (.int .i64 (L.length : Int)) ∧ w' = W := by
 obtain ⟨sets, so, sc, _, c3, _⟩ := h
 go_enter Tryz.func11, Tryz.ntmps11
 go_wp2
 go_ret
 exact ⟨rfl, rfl⟩
set_option maxRecDepth 100000 in
set_option maxHeartbeats 1000000 in
theorem dcls_any (h : DAt W D a ms ps L) : Calls Tryz.prog 12 #[.pointer (some ⟨D, 0, none⟩)] W fun e w' => e = .returned (.int .i64 (ms.length : Int)) ∧ w' = W := by
 obtain ⟨sets, so, sc, hc, _, _⟩ := h
 have hl := U.clen_any hc
 clear hc
 go_enter Tryz.func12, Tryz.ntmps12
 go_wp2_with fail
 refine hl.mono ?_
 rintro e w1 ⟨rfl, rfl⟩
 clear hl
 go_wp2
 go_ret
 exact ⟨rfl, rfl⟩
set_option maxRecDepth 100000 in
set_option maxHeartbeats 1000000 in
theorem isState_any (h : DAt W D a ms ps L) (s : Int) : Calls Tryz.prog 29 #[.pointer (some ⟨D, 0, none⟩), .int .i64 s] W fun e w' => e = .returned (.bool (SB.inL L s)) ∧ w' = W := by
 obtain ⟨sets, so, sc, _, c3, _⟩ := h
 by_cases h0 : 0 ≤ s
 · by_cases h1 : s < (L.length : Int)
   · have HE : Hid (SB.inL L s = true) := hide (by unfold SB.inL; simp [h0, h1])
     go_enter Tryz.func29, Tryz.ntmps29
     go_wp2
     go_ret
     exact ⟨by rw [HE.out]; rfl, rfl⟩
   · have HE : Hid (SB.inL L s = false) := hide (by unfold SB.inL; simp [h1])
     go_enter Tryz.func29, Tryz.ntmps29
     go_wp2
     go_ret
     exact ⟨by rw [HE.out]; rfl, rfl⟩
 · have HE : Hid (SB.inL L s = false) := hide (by unfold SB.inL; simp [h0])
   go_enter Tryz.func29, Tryz.ntmps29
   go_wp2
   go_ret
   exact ⟨by rw [HE.out]; rfl, rfl⟩
set_option maxRecDepth 100000 in
set_option maxHeartbeats 1000000 in
theorem dmask_any (h : DAt W D a ms ps L) (s : Int) : Calls Tryz.prog 14 #[.pointer (some ⟨D, 0, none⟩), .int .i64 s] W fun e w' => e = .returned (.int .u64 (SB.mkI L s : Int)) ∧ w' = W := by
 have hi := isState_any h s
 obtain ⟨sets, so, sc, _, c3, hr⟩ := h
 have es := elemSize70
 by_cases hs : 0 ≤ s ∧ s < (L.length : Int)
 · have hb : SB.inL L s = true := by unfold SB.inL; simp [hs]
   rw [hb] at hi
   obtain ⟨k, rfl⟩ := Int.eq_ofNat_of_zero_le hs.1
   have hk : k < L.length := by omega
   obtain ⟨g, gr, rfl, d0, d1, d2, _⟩ := hr k hk
   have HE : Hid (SB.mkI L (k : Int) = L[k]) := hide (by unfold SB.mkI; rw [hb, if_pos rfl, Int.toNat_natCast, List.getD_eq_getElem?_getD, List.getElem?_eq_getElem hk]; rfl)
   generalize L[k] = x at *
   clear hr hs hb
   go_enter Tryz.func14, Tryz.ntmps14
   go_wp2_with fail
   refine hi.mono ?_
   rintro e w1 ⟨rfl, rfl⟩
   clear hi
   go_wp2
   go_ret
   exact ⟨by rw [HE.out]; rfl, rfl⟩
 · have hb : SB.inL L s = false := by unfold SB.inL; simpa using hs
   rw [hb] at hi
   have HE : Hid (SB.mkI L s = 0) := hide (by unfold SB.mkI; rw [hb]; rfl)
   clear hr hs hb c3
   go_enter Tryz.func14, Tryz.ntmps14
   go_wp2_with fail
   refine hi.mono ?_
   rintro e w1 ⟨rfl, rfl⟩
   clear hi
   go_wp2
   go_ret
   exact ⟨by rw [HE.out]; rfl, rfl⟩
set_option maxRecDepth 100000 in
set_option maxHeartbeats 1000000 in
theorem dacc_any (h : DAt W D a ms ps L) (s : Int) : Calls Tryz.prog 15 #[.pointer (some ⟨D, 0, none⟩), .int .i64 s] W fun e w' => e = .returned (.bool (SB.acI a L s)) ∧ w' = W := by
 have hi := isState_any h s
 obtain ⟨sets, so, sc, _, c3, hr⟩ := h
 have es := elemSize70
 by_cases hs : 0 ≤ s ∧ s < (L.length : Int)
 · have hb : SB.inL L s = true := by unfold SB.inL; simp [hs]
   rw [hb] at hi
   obtain ⟨k, rfl⟩ := Int.eq_ofNat_of_zero_le hs.1
   have hk : k < L.length := by omega
   obtain ⟨g, gr, rfl, d0, d1, d2, _⟩ := hr k hk
   have HE : Hid (SB.acI a L (k : Int) = PA.acc a L[k]) := hide (by unfold SB.acI; rw [hb, Bool.true_and, Int.toNat_natCast, List.getD_eq_getElem?_getD, List.getElem?_eq_getElem hk]; rfl)
   generalize PA.acc a L[k] = x at *
   clear hr hs hb d0 d2
   go_enter Tryz.func15, Tryz.ntmps15
   go_wp2_with fail
   refine hi.mono ?_
   rintro e w1 ⟨rfl, rfl⟩
   clear hi
   go_wp2
   go_ret
   exact ⟨by rw [HE.out]; rfl, rfl⟩
 · have hb : SB.inL L s = false := by unfold SB.inL; simpa using hs
   rw [hb] at hi
   have HE : Hid (SB.acI a L s = false) := hide (by unfold SB.acI; rw [hb]; rfl)
   clear hr hs hb c3
   go_enter Tryz.func15, Tryz.ntmps15
   go_wp2_with fail
   refine hi.mono ?_
   rintro e w1 ⟨rfl, rfl⟩
   clear hi
   go_wp2
   go_ret
   exact ⟨by rw [HE.out]; rfl, rfl⟩
set_option maxRecDepth 100000 in
set_option maxHeartbeats 1000000 in
theorem dnext_any (h : DAt W D a ms ps L) (s c : Int) : Calls Tryz.prog 13 #[.pointer (some ⟨D, 0, none⟩), .int .i64 s, .int .i64 c] W fun e w' => e = .returned (.int .i64 (SB.nxI a ms L s c)) ∧ w' = W := by
 have hi := isState_any h s
 have hcl := dcls_any h
 obtain ⟨sets, so, sc, _, c3, hr⟩ := h
 have es := elemSize70
 have es2 := elemSize45
 by_cases hs : 0 ≤ s ∧ s < (L.length : Int)
 · have hb : SB.inL L s = true := by unfold SB.inL; simp [hs]
   rw [hb] at hi
   by_cases h0 : 0 ≤ c
   · by_cases h1 : c < (ms.length : Int)
     · obtain ⟨k, rfl⟩ := Int.eq_ofNat_of_zero_le hs.1
       obtain ⟨q, rfl⟩ := Int.eq_ofNat_of_zero_le h0
       have hk : k < L.length := by omega
       have hq : q < ms.length := by omega
       obtain ⟨g, gr, rfl, d0, d1, d2, d3⟩ := hr k hk
       have d4 := d3 q hq
       have HE : Hid (SB.nxI a ms L (k : Int) (q : Int) = (L.idxOf (PA.behind a L[k] &&& (ms[q] % 2 ^ a.pl.length)) : Int)) := hide (by
         unfold SB.nxI
         rw [if_pos ⟨hb, by omega, by omega⟩, Int.toNat_natCast, Int.toNat_natCast, List.getD_eq_getElem?_getD, List.getElem?_eq_getElem hk, List.getD_eq_getElem?_getD, List.getElem?_eq_getElem hq]
         rfl)
       generalize L.idxOf (PA.behind a L[k] &&& (ms[q] % 2 ^ a.pl.length)) = x at *
       clear hr hs hb d0 d1 d3 h0 h1
       go_enter Tryz.func13, Tryz.ntmps13
       go_wp2_with fail
       refine hi.mono ?_
       rintro e w1 ⟨rfl, rfl⟩
       clear hi
       go_wp2_with fail
       refine hcl.mono ?_
       rintro e w2 ⟨rfl, rfl⟩
       clear hcl
       go_wp2
       go_ret
       exact ⟨by rw [HE.out]; rfl, rfl⟩
     · have HE : Hid (SB.nxI a ms L s c = -1) := hide (by unfold SB.nxI; rw [if_neg (fun h => h1 h.2.2)])
       clear hr hs hb c3
       go_enter Tryz.func13, Tryz.ntmps13
       go_wp2_with fail
       refine hi.mono ?_
       rintro e w1 ⟨rfl, rfl⟩
       clear hi
       go_wp2_with fail
       refine hcl.mono ?_
       rintro e w2 ⟨rfl, rfl⟩
       clear hcl
       go_wp2
       go_ret
       exact ⟨by rw [HE.out]; rfl, rfl⟩
   · have HE : Hid (SB.nxI a ms L s c = -1) := hide (by unfold SB.nxI; rw [if_neg (fun h => h0 h.2.1)])
     clear hr hs hb c3 hcl
     go_enter Tryz.func13, Tryz.ntmps13
     go_wp2_with fail
     refine hi.mono ?_
     rintro e w1 ⟨rfl, rfl⟩
     clear hi
     go_wp2
     go_ret
     exact ⟨by rw [HE.out]; rfl, rfl⟩
 · have hb : SB.inL L s = false := by unfold SB.inL; simpa using hs
   rw [hb] at hi
   have HE : Hid (SB.nxI a ms L s c = -1) := hide (by unfold SB.nxI; rw [if_neg (fun h => by rw [hb] at h; cases h.1)])
   clear hr hs hb c3 hcl
   go_enter Tryz.func13, Tryz.ntmps13
   go_wp2_with fail
   refine hi.mono ?_
   rintro e w1 ⟨rfl, rfl⟩
   clear hi
   go_wp2
   go_ret
   exact ⟨by rw [HE.out]; rfl, rfl⟩
set_option maxRecDepth 100000 in
set_option maxHeartbeats 1000000 in
theorem dclass_any (h : DAt W D a ms ps L) (hl : ps.length ≤ 10000000) (hs : ps.Pairwise fun a b => a.1 < b.1) (r : Int) : Calls Tryz.prog 18 #[.pointer (some ⟨D, 0, none⟩), .int .i32 r] W fun e w' => e = .returned (.int .i64 (SB.clI ps r)) ∧ Below W.heap.size W w' := by
 obtain ⟨sets, so, sc, hc, _, _⟩ := h
 have ho := U.cof_any hc hl hs r
 clear hc
 go_enter Tryz.func18, Tryz.ntmps18
 go_wp2_with fail
 refine ho.mono ?_
 rintro e w1 ⟨q, rfl, hb, hq⟩
 have HE : Hid (SB.clI ps r = q) := hide (by
   unfold SB.clI
   rcases hq with ⟨h1, rfl⟩ | ⟨h1, h2, rfl⟩ | ⟨h1, k, hk, h2, rfl⟩
   · rw [if_pos h1]
   · rw [if_neg (by omega), cnt_len h2]
   · rw [if_neg (by omega), cnt_len h2]
     simp [List.getD_eq_getElem?_getD, List.getElem?_eq_getElem hk])
 clear ho hq hs
 go_wp2
 go_ret
 exact ⟨by rw [HE.out]; rfl, hb⟩
set_option maxRecDepth 100000 in
set_option maxHeartbeats 1000000 in
theorem dstep_any (h : DAt W D a ms ps L) (hl : ps.length ≤ 10000000) (hs : ps.Pairwise fun a b => a.1 < b.1) (s r : Int) : Calls Tryz.prog 17 #[.pointer (some ⟨D, 0, none⟩), .int .i64 s, .int .i32 r] W fun e w' => e = .returned (.int .i64 (SB.nxI a ms L s (SB.clI ps r))) ∧ Below W.heap.size W w' := by
 have h1 := dclass_any h hl hs r
 have h2 := fun W' hb => dnext_any (h.later (W' := W') hb) s (SB.clI ps r)
 generalize SB.clI ps r = c at *
 clear h hs hl
 go_enter Tryz.func17, Tryz.ntmps17
 go_wp2_with fail
 refine h1.mono ?_
 rintro e w1 ⟨rfl, hb⟩
 have h3 := h2 w1 hb
 obtain ⟨x, hx⟩ : ∃ x, SB.nxI a ms L s c = x := ⟨_, rfl⟩
 rw [hx] at h3
 have HX := hide hx
 clear hx
 clear h1 h2
 go_wp2_with fail
 refine h3.mono ?_
 rintro e w2 ⟨rfl, rfl⟩
 clear h3
 go_wp2
 go_ret
 exact ⟨by rw [HX.out]; rfl, hb⟩
end
end Go.Proofs.YtgngaldoemopjaaGreatDoor
namespace Go.Proofs.YtgngaldoemopjaaGreatDoor
open Go.RowKit Go.Shelf
open E (T isS)
attribute [local go_sem] Oper.semAt_some
namespace SB
theorem gr_nodup (bh : Nat → Nat) (fs : List Nat) : ∀ k, (gr bh fs k).Nodup
 | 0 => by rw [gr]; simp
 | k + 1 => nx_nodup _ fs (gr_nodup bh fs k)
theorem nx_from (b : Nat) : ∀ (fs L : List Nat) (x : Nat), x ∈ nx b fs L → x ∈ L ∨ ∃ f ∈ fs, x = b &&& f
 | [], _, _, h => .inl h
 | g :: fs, L, x, h => by
   rcases nx_from b fs (num L (b &&& g)) x h with h | ⟨f, hf, e⟩
   · unfold num at h
     split at h
     · exact .inl h
     · rcases List.mem_append.1 h with h | h
       · exact .inl h
       · exact .inr ⟨g, List.mem_cons_self, List.mem_singleton.1 h⟩
   · exact .inr ⟨f, List.mem_cons_of_mem _ hf, e⟩
section
variable {bh : Nat → Nat} {fs : List Nat} {k : Nat} (hj : ∀ j < k, j < (gr bh fs j).length)
include hj
theorem gr_at {j : Nat} (h : j < k) (h2 : j < (gr bh fs k).length) : (gr bh fs j).getD j 0 = (gr bh fs k)[j] := by
 obtain ⟨r, hr⟩ := gr_le bh fs (Nat.le_of_lt h)
 rw [List.getD_eq_getElem?_getD, List.getElem?_eq_getElem (hj j h), Option.getD_some]
 have e : (gr bh fs k)[j]? = (gr bh fs j)[j]? := by rw [← hr, List.getElem?_append_left (hj j h)]
 rw [List.getElem?_eq_getElem h2, List.getElem?_eq_getElem (hj j h)] at e
 exact (Option.some.inj e).symm
theorem gr_step (hk : (gr bh fs k).length = k) {j : Nat} (h : j < k) {f : Nat} (hf : f ∈ fs) : bh ((gr bh fs k)[j]'(by omega)) &&& f ∈ gr bh fs k := by
 rw [← gr_at hj h (by omega)]
 exact (gr_le bh fs (show j + 1 ≤ k by omega)).subset (nx_mem _ fs _ f hf)
theorem gr_led (hk : (gr bh fs k).length = k) : ∀ x ∈ gr bh fs k, x = PA.bg ∨ ∃ j, ∃ h : j < k, ∃ f ∈ fs, x = bh ((gr bh fs k)[j]'(by omega)) &&& f := by
 have key : ∀ i ≤ k, ∀ x ∈ gr bh fs i, x = PA.bg ∨ ∃ j, ∃ h : j < k, ∃ f ∈ fs, x = bh ((gr bh fs k)[j]'(by omega)) &&& f := by
   intro i
   induction i with
   | zero => intro _ x hx; rw [gr, List.mem_singleton] at hx; exact .inl hx
   | succ i ih =>
     intro hi x hx
     rw [gr] at hx
     rcases nx_from _ fs _ x hx with h | ⟨f, hf, e⟩
     · exact ih (by omega) x h
     · rw [gr_at hj (show i < k by omega) (by omega)] at e
       exact .inr ⟨i, by omega, f, hf, e⟩
 exact key k (Nat.le_refl _)
end
theorem gr_head (bh : Nat → Nat) (fs : List Nat) (k : Nat) (h : 0 < (gr bh fs k).length) : (gr bh fs k)[0] = PA.bg := by
 obtain ⟨r, hr⟩ := gr_le bh fs (Nat.zero_le k)
 have e : (gr bh fs k)[0]? = some PA.bg := by rw [← hr]; rfl
 rw [List.getElem?_eq_getElem h] at e
 exact Option.some.inj e
end SB
namespace PA
def tA1 : T := .mk 1 0 [(97, 97)] [] []
theorem parseA : E.parse [39, 97] = .ok tA1 := by rfl
theorem tA1_ok : treeC tA1 = true := by rfl
def aA : Au := ⟨[([(97, 97)], 0)], ⟨1, 1, false⟩⟩
theorem autoA : auto tA1 = aA := by rfl
end PA
theorem knP {ls : List U.L3} (h : ls.map (·.2.2) = [[(97, 97)]]) : U.pieces (U.endsZ ls) = [((0, 96), 0), ((97, 97), 1), ((98, 1114111), 0)] := by
 have e1 : U.TOf ls = [[(97, 97)]] := h
 have e2 : ls.length = 1 := by have := congrArg List.length h; simpa using this
 have e3 : U.S.set [(97, 97)] = [(97, 97)] := U.S.set_self (U.S.canon_one (by rfl))
 have e4 : U.endsL ls = [(97, 0), (98, 0)] := by
   unfold U.endsL U.evT
   rw [e1, e2]
   show U.evR 0 (U.S.set [(97, 97)]) ++ [] = _
   rw [e3]
   rfl
 unfold U.endsZ
 rw [e4]
 rfl
theorem knM : U.msOf [((0, 96), 0), ((97, 97), 1), ((98, 1114111), 0)] = [0, 1] := by rfl
theorem knQ : U.psOf [0, 1] [((0, 96), 0), ((97, 97), 1), ((98, 1114111), 0)] = [(0, 0), (97, 1), (98, 0)] := by rfl
theorem knG : ∀ k, SB.gr (PA.behind PA.aA) [0, 1] (k + 1) = [PA.bg, 0, 1]
 | 0 => by kernel_rfl
 | 1 => by kernel_rfl
 | 2 => by kernel_rfl
 | k + 3 => by
   rw [SB.gr, knG (k + 2)]
   rw [List.getD_eq_getElem?_getD, List.getElem?_eq_none (by simp), Option.getD_none, PA.behind_zero]
   rfl
def AnsF (t : T) (w : World) (e : Ending) (W : World) : Prop :=
 Below w.heap.size w W ∧ ((¬ (PA.Acc t ∧ PA.ct t ≤ 60) ∧ ∃ f : Int, f ≠ 0 ∧ e = .returned (.tuple #[.pointer none, .int .i64 f])) ∨
   (PA.Acc t ∧ PA.ct t ≤ 60 ∧ ∃ W1, AnsDN (PA.auto t) W1 e W))
set_option maxRecDepth 100000 in
set_option maxHeartbeats 4000000 in
theorem dfa_any (t : T) (d : ND) (w : World) (htab : Tabs w) (hdeb : Deb w) (hT : TR w (fun _ => True) t d.v) (hps : (E.pre t t).length ≤ 1000000) (hnb : ∀ p ∈ E.pre t t, E.NodeB p.1) : Calls Tryz.prog 10 #[d.v] w (AnsF t w) := by
 have b1 := al1 w (.cells #[.int .i64 d.k, .int .i64 d.a, .slice d.sp d.sl d.sc, .string d.n, .slice d.kp d.kl d.kc] 25)
 have n1 := heap_alloc_new w (.cells #[.int .i64 d.k, .int .i64 d.a, .slice d.sp d.sl d.sc, .string d.n, .slice d.kp d.kl d.kc] 25)
 obtain ⟨X, hX⟩ : ∃ X, w.alloc (.cells #[.int .i64 d.k, .int .i64 d.a, .slice d.sp d.sl d.sc, .string d.n, .slice d.kp d.kl d.kc] 25) = X := ⟨_, rfl⟩
 rw [hX] at b1 n1
 obtain ⟨q0, q1, q2, q3, q4⟩ := cells_five n1
 have hN := new_any t d X (htab.later b1) (hdeb.later b1) (TR.later (fun k hk => b1.block k hk) _ hT) hps hnb
 have HD := hide hdeb
 unfold ND.v at hN ⊢
 clear hT htab hdeb n1 hps hnb
 go_enter Tryz.func10, Tryz.ntmps10
 go_wp2_with fail
 refine hN.mono ?_
 rintro e W1 ⟨hb1, ⟨h1, rfl⟩ | ⟨h1, h2, rfl⟩ | ⟨h1, h2, A, rfl, hA⟩⟩
 · have HF := hide (show AnsF t w (.returned (.tuple #[.pointer none, .int .i64 70])) W1 from ⟨nx b1 hb1, .inl ⟨fun h => h1 h.1, 70, by decide, rfl⟩⟩)
   clear hN h1 q0 q1 q2 q3 q4 hX
   go_wp2
   exact bodyPost_ret (v := .tuple #[.pointer none, .int .i64 70]) (by simp [results, Tryz.results10, go_sem]) rfl HF.out
 · have HF := hide (show AnsF t w (.returned (.tuple #[.pointer none, .int .i64 72])) W1 from ⟨nx b1 hb1, .inl ⟨fun h => by omega, 72, by decide, rfl⟩⟩)
   clear hN h1 h2 q0 q1 q2 q3 q4 hX
   go_wp2
   exact bodyPost_ret (v := .tuple #[.pointer none, .int .i64 72]) (by simp [results, Tryz.results10, go_sem]) rfl HF.out
 · have B1 := nx b1 hb1
   have hS := snew_any hA (PA.good_auto h1 h2) (HD.out.later B1)
   have HP := hide (And.intro h1 h2)
   clear hN h1 h2 q0 q1 q2 q3 q4 hX hA
   go_wp2_with fail
   refine hS.mono ?_
   intro e W2 hans
   have HF := hide (show AnsF t w e W2 from ⟨nx B1 hans.1, .inr ⟨HP.out.1, HP.out.2, W1, hans⟩⟩)
   obtain ⟨hb2, ls, hls, ⟨rfl, _⟩ | ⟨D, k, rfl, _⟩⟩ := hans
   · clear hS hls
     go_wp2
     exact bodyPost_ret (v := .tuple #[.pointer none, .int .i64 140]) (by simp [results, Tryz.results10, go_sem]) rfl HF.out
   · clear hS hls
     go_wp2
     exact bodyPost_ret (v := .tuple #[.pointer (some ⟨D, 0, none⟩), .int .i64 0]) (by simp [results, Tryz.results10, go_sem]) rfl HF.out
theorem ansF_A {w W : World} {e : Ending} (h : AnsF PA.tA1 w e W) : Below w.heap.size w W ∧ ∃ D, e = .returned (.tuple #[.pointer (some ⟨D, 0, none⟩), .int .i64 0]) ∧ DAt W D PA.aA [0, 1] [(0, 0), (97, 1), (98, 0)] [PA.bg, 0, 1] := by
 obtain ⟨hb, ⟨h1, _⟩ | ⟨h1, h2, W1, hb2, ls, hls, h3⟩⟩ := h
 · exact absurd ⟨(PA.treeC_ok PA.tA1_ok).1, by decide⟩ h1
 · rw [PA.autoA] at hls h3
   have hp : pcs ls = [((0, 96), 0), ((97, 97), 1), ((98, 1114111), 0)] := knP hls
   rw [hp, knM] at h3
   have hf : SB.fsOf PA.aA [0, 1] = [0, 1] := by rfl
   rw [hf] at h3
   rcases h3 with ⟨rfl, k, h4, _, h5⟩ | ⟨D, k, rfl, hk, _, _, hD⟩
   · rw [knG] at h5
     exact absurd h5 (by simp)
   · cases k with
     | zero => rw [SB.gr] at hk; exact absurd hk (by simp)
     | succ k =>
       rw [knG] at hD
       rw [knQ] at hD
       exact ⟨hb, D, rfl, hD⟩
end Go.Proofs.YtgngaldoemopjaaGreatDoor
namespace Go.Proofs.YtgngaldoemopjaaGreatDoor
open Go.RowKit Go.Shelf
open E (T isS)
attribute [local go_sem] Oper.semAt_some
set_option maxRecDepth 100000 in
set_option maxHeartbeats 4000000 in
theorem known14_any (w : World) (ht : Tabs w) (hd : Deb w) : Calls Tryz.prog 8 #[] w fun e w' => e = .returned (.bool true) ∧ Below w.heap.size w w' := by
 have h1 := parse_light ⟨#[39, 97]⟩ (by decide) (light_of (by kernel_rfl)) w ht
 rw [show E.parse (bts ⟨#[39, 97]⟩) = _ from PA.parseA] at h1
 obtain ⟨hac, hnb, hps⟩ := PA.treeC_ok PA.tA1_ok
 go_enter Tryz.func8, Tryz.ntmps8
 go_wp2_with fail
 refine h1.mono ?_
 intro e w1 ha
 obtain ⟨hb1, d, rfl, htr⟩ := ha.ok
 have a2 := al1 w1 (.cells #[.int .i64 d.k, .int .i64 d.a, .slice d.sp d.sl d.sc, .string d.n, .slice d.kp d.kl d.kc] 25)
 have n2 := heap_alloc_new w1 (.cells #[.int .i64 d.k, .int .i64 d.a, .slice d.sp d.sl d.sc, .string d.n, .slice d.kp d.kl d.kc] 25)
 have B2 := nx hb1 a2
 have hN := dfa_any PA.tA1 d (w1.alloc (.cells #[.int .i64 d.k, .int .i64 d.a, .slice d.sp d.sl d.sc, .string d.n, .slice d.kp d.kl d.kc] 25)) (ht.later B2) (hd.later B2) (TR.later (fun k hk => a2.block k hk) _ htr) hps hnb
 clear h1 ha htr a2 n2
 unfold ND.v at hN ⊢
 go_wp2_with fail
 refine hN.mono ?_
 intro e W3 hw
 obtain ⟨hb3, D, rfl, hD⟩ := ansF_A hw
 have B3 := nx B2 hb3
 clear hN hw
 have c1 : Calls Tryz.prog 11 #[.pointer (some ⟨D, 0, none⟩)] W3 fun e W => e = .returned (.int .i64 3) ∧ W = W3 := dlen_any hD
 have c2 : Calls Tryz.prog 12 #[.pointer (some ⟨D, 0, none⟩)] W3 fun e W => e = .returned (.int .i64 2) ∧ W = W3 := dcls_any hD
 have c3 : Calls Tryz.prog 17 #[.pointer (some ⟨D, 0, none⟩), .int .i64 0, .int .i32 97] W3 fun e W => e = .returned (.int .i64 2) ∧ Below W3.heap.size W3 W := by
   have := dstep_any hD (by decide) (by decide) 0 97
   rw [show SB.nxI PA.aA [0, 1] [PA.bg, 0, 1] 0 (SB.clI [(0, 0), (97, 1), (98, 0)] 97) = 2 by kernel_rfl] at this
   exact this
 go_wp2_with (first | (refine c1.mono ?_; rintro e w' ⟨rfl, rfl⟩) | (refine c2.mono ?_; rintro e w' ⟨rfl, rfl⟩))
 refine c3.mono ?_
 rintro e W4 ⟨rfl, hb4⟩
 have hD4 := hD.later hb4
 have B4 := nx B3 hb4
 clear c1 c2 c3 hD hb4 B3
 have c4 : Calls Tryz.prog 15 #[.pointer (some ⟨D, 0, none⟩), .int .i64 2] W4 fun e W => e = .returned (.bool true) ∧ W = W4 := by
   have := dacc_any hD4 2
   rw [show SB.acI PA.aA [PA.bg, 0, 1] 2 = true by kernel_rfl] at this
   exact this
 have c5 : Calls Tryz.prog 15 #[.pointer (some ⟨D, 0, none⟩), .int .i64 0] W4 fun e W => e = .returned (.bool false) ∧ W = W4 := by
   have := dacc_any hD4 0
   rw [show SB.acI PA.aA [PA.bg, 0, 1] 0 = false by kernel_rfl] at this
   exact this
 have c6 : Calls Tryz.prog 14 #[.pointer (some ⟨D, 0, none⟩), .int .i64 0] W4 fun e W => e = .returned (.int .u64 9223372036854775808) ∧ W = W4 := by
   have := dmask_any hD4 0
   rw [show (SB.mkI [PA.bg, 0, 1] 0 : Int) = 9223372036854775808 by kernel_rfl] at this
   exact this
 have c7 : Calls Tryz.prog 13 #[.pointer (some ⟨D, 0, none⟩), .int .i64 0, .int .i64 5] W4 fun e W => e = .returned (.int .i64 (-1)) ∧ W = W4 := by
   have := dnext_any hD4 0 5
   rw [show SB.nxI PA.aA [0, 1] [PA.bg, 0, 1] 0 5 = -1 by kernel_rfl] at this
   exact this
 clear hD4
 go_wp2_with fail
 refine c4.mono ?_
 rintro e w' ⟨rfl, rfl⟩
 clear c4
 go_wp2_with fail
 refine c5.mono ?_
 rintro e w' ⟨rfl, rfl⟩
 clear c5
 go_wp2_with fail
 refine c6.mono ?_
 rintro e w' ⟨rfl, rfl⟩
 clear c6
 go_wp2_with fail
 refine c7.mono ?_
 rintro e w' ⟨rfl, rfl⟩
 clear c7
 go_wp2
 go_ret
 exact ⟨rfl, B4⟩
end Go.Proofs.YtgngaldoemopjaaGreatDoor
namespace Go.Proofs.YtgngaldoemopjaaGreatDoor
open Go.RowKit Go.Shelf
open E (T isS)
attribute [local go_sem] Oper.semAt_some
namespace SB
structure DeadF (n k : Nat) (M : Nat → Nat) (T : Nat → Nat → Nat) (A : Nat → Bool) : Prop where
 k0 : 0 < k
 k1 : k ≤ 128
 to : ∀ s < k, ∀ c < n, 0 < T s c ∧ T s c < k ∧ (M s = 0 → T s c = s)
 dead : ∀ s < k, M s = 0 → A s = false
 one : ∀ i s, i < s → s < k → M i ≠ M s
 led : ∀ t, 0 < t → t < k → ∃ s < k, ∃ c < n, T s c = t
theorem nd_inj {L : List Nat} (h : L.Nodup) {i j : Nat} (hi : i < L.length) (hj : j < L.length) (e : L[i] = L[j]) : i = j := by
 have hp := List.pairwise_iff_getElem.1 h
 rcases Nat.lt_trichotomy i j with hlt | rfl | hlt
 · exact absurd e (hp i j hi hj hlt)
 · rfl
 · exact absurd e.symm (hp j i hj hi hlt)
theorem idx_nodup {L : List Nat} (h : L.Nodup) {i : Nat} (hi : i < L.length) : L.idxOf L[i] = i := by
 have h1 : L.idxOf L[i] < L.length := List.idxOf_lt_length_of_mem (List.getElem_mem hi)
 have h2 : L[L.idxOf L[i]] = L[i] := List.getElem_idxOf h1
 exact nd_inj h h1 hi h2
end SB
def DeadC (W : World) (D n k : Nat) (M : Nat → Nat) (T : Nat → Nat → Nat) (A : Nat → Bool) : Prop :=
 ∀ W', Below W.heap.size W W' → (Calls Tryz.prog 11 #[.pointer (some ⟨D, 0, none⟩)] W' fun e w' => e = .returned (.int .i64 (k : Int)) ∧ w' = W') ∧
   (Calls Tryz.prog 12 #[.pointer (some ⟨D, 0, none⟩)] W' fun e w' => e = .returned (.int .i64 (n : Int)) ∧ w' = W') ∧
   ∀ s, s < k → (∀ c, c < n → Calls Tryz.prog 13 #[.pointer (some ⟨D, 0, none⟩), .int .i64 (s : Int), .int .i64 (c : Int)] W' fun e w' => e = .returned (.int .i64 (T s c : Int)) ∧ w' = W') ∧
     (Calls Tryz.prog 14 #[.pointer (some ⟨D, 0, none⟩), .int .i64 (s : Int)] W' fun e w' => e = .returned (.int .u64 (M s : Int)) ∧ w' = W') ∧
     (Calls Tryz.prog 15 #[.pointer (some ⟨D, 0, none⟩), .int .i64 (s : Int)] W' fun e w' => e = .returned (.bool (A s)) ∧ w' = W')
theorem dead_of' {W : World} {D k : Nat} {a : PA.Au} {ms : List Nat} {ps : List (Int × Nat)} {L : List Nat} (hg : PA.Good a) (hk : L.length = k) (hk1 : k ≤ 128) (hnd : L.Nodup) (hpos : 0 < L.length) (hhd : L[0] = PA.bg)
   (hst : ∀ j, j < k → ∀ f ∈ SB.fsOf a ms, PA.behind a (L.getD j 0) &&& f ∈ L) (hled : ∀ x ∈ L, x = PA.bg ∨ ∃ j, j < k ∧ ∃ f ∈ SB.fsOf a ms, x = PA.behind a (L.getD j 0) &&& f)
   (hD : DAt W D a ms ps L) : ∃ M T A, SB.DeadF ms.length k M T A ∧ DeadC W D ms.length k M T A := by
 have hfl : (SB.fsOf a ms).length = ms.length := by unfold SB.fsOf; rw [List.length_map]
 have hfe : ∀ c (h : c < ms.length), (SB.fsOf a ms)[c]'(by omega) = ms.getD c 0 % 2 ^ a.pl.length := fun c h => by simp [SB.fsOf, h]
 have hfm : ∀ c, c < ms.length → ms.getD c 0 % 2 ^ a.pl.length ∈ SB.fsOf a ms := fun c h => by rw [← hfe c h]; exact List.getElem_mem _
 have hgd : ∀ s (h : s < k), L.getD s 0 = L[s]'(by omega) := fun s h => by rw [List.getD_eq_getElem?_getD, List.getElem?_eq_getElem (by omega)]; rfl
 refine ⟨fun s => L.getD s 0, fun s c => L.idxOf (PA.behind a (L.getD s 0) &&& (ms.getD c 0 % 2 ^ a.pl.length)), fun s => PA.acc a (L.getD s 0), ⟨by omega, hk1, fun s hs c hc => ?_, fun s hs h0 => ?_, fun i s hi hs e => ?_, fun t h0 ht => ?_⟩, fun W' hb => ?_⟩
 · have hm : PA.behind a (L.getD s 0) &&& (ms.getD c 0 % 2 ^ a.pl.length) ∈ L := hst s hs _ (hfm c hc)
   have hlt := List.idxOf_lt_length_of_mem hm
   refine ⟨?_, by show L.idxOf _ < k; omega, fun h0 => ?_⟩
   · show 0 < L.idxOf _
     rcases Nat.eq_zero_or_pos (L.idxOf (PA.behind a (L.getD s 0) &&& (ms.getD c 0 % 2 ^ a.pl.length))) with h | h
     · exfalso
       have e := List.getElem_idxOf hlt
       have e2 : L[L.idxOf (PA.behind a (L.getD s 0) &&& (ms.getD c 0 % 2 ^ a.pl.length))] = L[0] := by simp only [h]
       rw [e2, hhd] at e
       have h1 : PA.behind a (L.getD s 0) &&& (ms.getD c 0 % 2 ^ a.pl.length) ≤ ms.getD c 0 % 2 ^ a.pl.length := Nat.and_le_right
       have h2 : ms.getD c 0 % 2 ^ a.pl.length < 2 ^ 60 := Nat.lt_of_lt_of_le (Nat.mod_lt _ (Nat.two_pow_pos _)) (Nat.pow_le_pow_right (by decide) hg.len)
       have h3 : (2 : Nat) ^ 60 < PA.bg := by decide
       omega
     · exact h
   · show L.idxOf _ = s
     have h0' : L.getD s 0 = 0 := h0
     rw [h0', PA.behind_zero, Nat.zero_and]
     rw [hgd s hs] at h0'
     rw [← h0']
     exact SB.idx_nodup hnd (by omega)
 · show PA.acc a (L.getD s 0) = false
   have h0' : L.getD s 0 = 0 := h0
   rw [h0']; exact PA.acc_zero a
 · have e' : L.getD i 0 = L.getD s 0 := e
   rw [hgd i (by omega), hgd s hs] at e'
   have := SB.nd_inj hnd (by omega) (by omega) e'
   omega
 · rcases hled (L[t]'(by omega)) (List.getElem_mem _) with h | ⟨j, hjk, f, hf, e⟩
   · rw [← hhd] at h
     have := SB.nd_inj hnd (by omega) (by omega) h
     omega
   · obtain ⟨c, hc, rfl⟩ := List.mem_iff_getElem.1 hf
     refine ⟨j, hjk, c, by omega, ?_⟩
     show L.idxOf _ = t
     rw [← hfe c (by omega), ← e]
     exact SB.idx_nodup hnd (by omega)
 · have hl := hD.later hb
   have c1 := dlen_any hl
   rw [hk] at c1
   refine ⟨c1, dcls_any hl, fun s hs => ?_⟩
   have hin : SB.inL L (s : Int) = true := by unfold SB.inL; simp; omega
   refine ⟨fun c hc => ?_, ?_, ?_⟩
   · have h := dnext_any hl (s : Int) (c : Int)
     rw [show SB.nxI a ms L (s : Int) (c : Int) = (L.idxOf (PA.behind a (L.getD s 0) &&& (ms.getD c 0 % 2 ^ a.pl.length)) : Int) by unfold SB.nxI; rw [if_pos ⟨hin, by omega, by omega⟩, Int.toNat_natCast, Int.toNat_natCast]] at h
     exact h
   · have h := dmask_any hl (s : Int)
     rw [show SB.mkI L (s : Int) = L.getD s 0 by unfold SB.mkI; rw [if_pos hin, Int.toNat_natCast]] at h
     exact h
   · have h := dacc_any hl (s : Int)
     rw [show SB.acI a L (s : Int) = PA.acc a (L.getD s 0) by unfold SB.acI; rw [hin, Bool.true_and, Int.toNat_natCast]] at h
     exact h
theorem dead_of {W : World} {D k : Nat} {a : PA.Au} {ms : List Nat} {ps : List (Int × Nat)} (hg : PA.Good a) (hk : (SB.gr (PA.behind a) (SB.fsOf a ms) k).length = k) (hj : ∀ j < k, j < (SB.gr (PA.behind a) (SB.fsOf a ms) j).length) (hk1 : k ≤ 128)
   (hD : DAt W D a ms ps (SB.gr (PA.behind a) (SB.fsOf a ms) k)) : ∃ M T A, SB.DeadF ms.length k M T A ∧ DeadC W D ms.length k M T A := by
 have hgd : ∀ s (h : s < k), (SB.gr (PA.behind a) (SB.fsOf a ms) k).getD s 0 = (SB.gr (PA.behind a) (SB.fsOf a ms) k)[s]'(by omega) := fun s h => by rw [List.getD_eq_getElem?_getD, List.getElem?_eq_getElem (by omega)]; rfl
 refine dead_of' hg hk hk1 (SB.gr_nodup _ _ _) (SB.gr_pos _ _ _) (SB.gr_head _ _ _ (SB.gr_pos _ _ _)) (fun j h f hf => by rw [hgd j h]; exact SB.gr_step hj hk h hf) (fun x hx => ?_) hD
 rcases SB.gr_led hj hk x hx with h | ⟨j, h, f, hf, e⟩
 · exact .inl h
 · exact .inr ⟨j, h, f, hf, by rw [hgd j h]; exact e⟩
def cBo (b : List Bool) : List Value := b.map Value.bool
theorem cBo_set (b : List Bool) (i : Nat) (x : Bool) : (cBo b).set i (.bool x) = cBo (b.set i x) := by simp [cBo, List.map_set]
theorem cBo_at {b : List Bool} {i : Nat} {x : Bool} (h : b[i]? = some x) : (cBo b)[i]? = some (.bool x) := by simp [cBo, h]
theorem info4B : (Tryz.prog.info? 4).map (fun i => (i.zero, i.size, i.bytes)) = some (some (.bool false), 1, 1) := by kernel_rfl
theorem mk_bools (n : Nat) (hn : n ≤ 1000000) (w : World) : (Instr.makeSlice 32 (.int .i64 (n : Int)) (.int .i64 (n : Int))).run Tryz.prog w = .ok (.slice (some ⟨w.heap.size, 0, none⟩) n n) (w.alloc (.cells (cBo (List.replicate n false)).toArray 4)) := by
 obtain ⟨i0, hi0, hz0, hz1, hz2⟩ : ∃ i, Tryz.prog.info? 4 = some i ∧ i.zero = some (.bool false) ∧ i.size = 1 ∧ i.bytes = 1 := by
   have h := info4B
   cases hi : Tryz.prog.info? 4 with
   | none => rw [hi] at h; cases h
   | some i => rw [hi] at h; simp at h; exact ⟨i, rfl, h.1, h.2.1, h.2.2⟩
 have := run_make (P := Tryz.prog) (w := w) 32 4 i0 (.bool false) Tryz.underlying32 hi0 hz0 .i64 .i64 (n : Int) (n : Int) (by omega) (by omega) (by rw [hz2]; omega) (by omega)
 have e : madeCells (Value.bool false).cells n = (cBo (List.replicate n false)).toArray := by
   rw [← Array.toList_inj]
   exact (toList_madeCells_one _ n).trans (by simp [cBo])
 rw [this, hz1, Int.toNat_natCast, Nat.mul_one, e]
theorem elemSize32 (w : World) : (sizeOf (Tryz.prog.elem 32)).run Tryz.prog w = .ok 1 w := by kernel_rfl
end Go.Proofs.YtgngaldoemopjaaGreatDoor
