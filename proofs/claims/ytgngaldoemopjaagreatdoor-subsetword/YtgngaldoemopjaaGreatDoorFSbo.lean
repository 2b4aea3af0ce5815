/- Joined: Sbx Sbs Sbo. -/
import Derived.Test.YtgngaldoemopjaaGreatDoorFSbh
import Derived.Laws.OwnMore
namespace Go.Proofs.YtgngaldoemopjaaGreatDoor
open Go.RowKit Go.Shelf
attribute [local go_sem] Oper.semAt_some
namespace SB
def nx (b : Nat) (fs L : List Nat) : List Nat := fs.foldl (fun L h => num L (b &&& h)) L
theorem nx_snoc (b : Nat) (fs L : List Nat) (h : Nat) : nx b (fs ++ [h]) L = num (nx b fs L) (b &&& h) := by simp [nx]
theorem nx_pre (b : Nat) : ∀ fs L : List Nat, L <+: nx b fs L
 | [], _ => List.prefix_refl _
 | h :: fs, L => (num_pre L (b &&& h)).trans (nx_pre b fs _)
theorem nx_len (b : Nat) : ∀ fs L : List Nat, (nx b fs L).length ≤ L.length + fs.length
 | [], _ => Nat.le_refl _
 | h :: fs, L => by
   have h1 := nx_len b fs (num L (b &&& h))
   have h2 := num_len L (b &&& h)
   rw [List.length_cons]
   show (nx b fs (num L (b &&& h))).length ≤ _
   omega
theorem nx_mem (b : Nat) : ∀ (fs L : List Nat), ∀ h ∈ fs, b &&& h ∈ nx b fs L
 | g :: fs, L, h, hh => by
   rcases List.mem_cons.1 hh with rfl | hh
   · exact (nx_pre b fs _).subset (num_mem L (b &&& h))
   · exact nx_mem b fs _ h hh
def rowI (b : Nat) (fs L : List Nat) : List Int := fs.map fun h => (L.idxOf (b &&& h) : Int)
theorem rowI_pre {b : Nat} {fs L L' : List Nat} (hp : L <+: L') (hm : ∀ h ∈ fs, b &&& h ∈ L) : rowI b fs L' = rowI b fs L := List.map_congr_left fun h hh => by rw [idx_pre hp (hm h hh)]
def part (n : Nat) (l : List Int) : List Value := l.map (Value.int .i64) ++ List.replicate (n - l.length) (.int .i64 0)
theorem part_set {n : Nat} {l : List Int} (h : l.length < n) (x : Int) : (part n l).set l.length (.int .i64 x) = part n (l ++ [x]) := by
 unfold part
 rw [List.set_append, if_neg (by simp)]
 obtain ⟨d, hd⟩ : ∃ d, n - l.length = d + 1 := ⟨n - l.length - 1, by omega⟩
 rw [hd, List.replicate_succ, List.length_map, Nat.sub_self, List.set_cons_zero, List.map_append, List.append_assoc, List.length_append]
 congr 2
 simp
 omega
theorem part_full (l : List Int) : part l.length l = l.map (Value.int .i64) := by simp [part]
end SB
def RdU (W : World) (B : Nat) (vo : Option Addr) (fs : List Nat) : Prop := ∀ i (h : i < fs.length), ∃ g off, vo = some ⟨g, off, none⟩ ∧ g < B ∧ W.cell? ⟨g, off + i, none⟩ = some (.int .u64 (fs[i] : Int))
theorem RdU.mc {W W' : World} {B P M : Nat} {vo : Option Addr} {fs : List Nat} (h : RdU W B vo fs) (hm : MC B P M W W') (hB : B ≤ W.heap.size) (hP : B ≤ P) (hM : B ≤ M) : RdU W' B vo fs := fun i hi => by
 obtain ⟨g, off, e, hg, hc⟩ := h i hi
 exact ⟨g, off, e, hg, (World.cell?_of_block (w := W) (a := ⟨g, off + i, none⟩) (hm.block g (by omega) (by rintro (e | e | ⟨e, _⟩) <;> omega))).trans hc⟩
theorem RdU.put {W : World} {B g i : Nat} {v : Value} {vo : Option Addr} {fs : List Nat} (h : RdU W B vo fs) (hg : B ≤ g) : RdU (W.setCell ⟨g, i, none⟩ v) B vo fs := fun j hj => by
 obtain ⟨q, off, e, hq, hc⟩ := h j hj
 exact ⟨q, off, e, hq, (World.cell?_of_block (w := W) (a := ⟨q, off + j, none⟩) (Below.heap_setCell _ _ _ _ (show q ≠ g by omega))).trans hc⟩
theorem elemSize45 (w : World) : (sizeOf (Tryz.prog.elem 45)).run Tryz.prog w = .ok 1 w := by kernel_rfl
theorem cells_idx {W : World} {g i : Nat} {l : List Value} {t : TypeId} {v : Value} (h : W.heap[g]? = some (.cells l.toArray t (0, 0))) (hi : l[i]? = some v) : W.cell? ⟨g, i, none⟩ = some v := by simp [World.cell?, h, hi]
theorem cells_set {W : World} {g i : Nat} {l : List Value} {t : TypeId} {v : Value} (h : W.heap[g]? = some (.cells l.toArray t (0, 0))) : (W.setCell ⟨g, i, none⟩ v).heap[g]? = some (.cells (l.set i v).toArray t (0, 0)) := by
 simp [World.setCell, Array.getElem?_modify, h]
theorem MkB.put3 {W : World} {B P M A g i : Nat} {vm v : Value} {L : List Nat} {k c : Nat} {f : Int → Option Int} {l : List Value} (h : MkB W B P M A vm L k f c) (hg : W.heap[g]? = some (.cells l.toArray 3 (0, 0))) : MkB (W.setCell ⟨g, i, none⟩ v) B P M A vm L k f c := by
 obtain ⟨th, tc, h1, _⟩ := h.box
 have hs : ∀ j, j ≠ g → (W.setCell ⟨g, i, none⟩ v).heap[j]? = W.heap[j]? := fun j hj => Below.heap_setCell _ _ _ _ hj
 refine h.kept (hs P ?_) (hs M ?_) fun j cs _ hj => hs j ?_
 · rintro rfl; rw [h1] at hg; cases hg
 · rintro rfl
   obtain ⟨D, ⟨es, cl, h4, _⟩, _⟩ := h.map
   rw [h4] at hg
   cases hg
 · rintro rfl; rw [hj] at hg; cases hg
theorem MC.put {W W' : World} {B P M g i : Nat} {v : Value} (h : MC B P M W W') (hg : W.heap.size ≤ g) : MC B P M W (W'.setCell ⟨g, i, none⟩ v) :=
 ⟨h.os, h.tape, h.output, by have := h.size; simp [World.setCell]; omega, fun j hj hn => (Below.heap_setCell _ _ _ _ (show j ≠ g by omega)).trans (h.block j hj hn)⟩
theorem MC.row {W W' : World} {B P M g : Nat} {cs : Array Value} {t : TypeId} (h : MC B P M W W') (hg : W.heap[g]? = some (.cells cs t (0, 0))) (ht : t ≠ 35) (hP : g ≠ P) (hM : g ≠ M) : W'.heap[g]? = some (.cells cs t (0, 0)) :=
 (h.block g (Array.getElem?_eq_some_iff.1 hg).1 (by
   rintro (e | e | ⟨_, cs', e⟩)
   · exact hP e
   · exact hM e
   · rw [hg] at e
     cases e
     exact ht rfl)).trans hg
theorem info3I : (Tryz.prog.info? 3).map (fun i => (i.zero, i.size, i.bytes)) = some (some (.int .i64 0), 1, 8) := by kernel_rfl
theorem mk_ints (n : Nat) (hn : n ≤ 1000000) (w : World) : (Instr.makeSlice 45 (.int .i64 (n : Int)) (.int .i64 (n : Int))).run Tryz.prog w = .ok (.slice (some ⟨w.heap.size, 0, none⟩) n n) (w.alloc (.cells (SB.part n []).toArray 3)) := by
 obtain ⟨i0, hi0, hz0, hz1, hz2⟩ : ∃ i, Tryz.prog.info? 3 = some i ∧ i.zero = some (.int .i64 0) ∧ i.size = 1 ∧ i.bytes = 8 := by
   have h := info3I
   cases hi : Tryz.prog.info? 3 with
   | none => rw [hi] at h; cases h
   | some i => rw [hi] at h; simp at h; exact ⟨i, rfl, h.1, h.2.1, h.2.2⟩
 have := run_make (P := Tryz.prog) (w := w) 45 3 i0 (.int .i64 0) Tryz.underlying45 hi0 hz0 .i64 .i64 (n : Int) (n : Int) (by omega) (by omega) (by rw [hz2]; omega) (by omega)
 have e : madeCells (Value.int .i64 0).cells n = (SB.part n []).toArray := by
   rw [← Array.toList_inj]
   exact (toList_madeCells_one _ n).trans (by simp [SB.part])
 rw [this, hz1, Int.toNat_natCast, Nat.mul_one, e]
set_option maxRecDepth 100000 in
set_option maxHeartbeats 4000000 in
theorem snext_any {W : World} {B P M A : Nat} {vo : Option Addr} {vc : Nat} {fs L : List Nat} {k : Nat} (h : MkB W B P M A (.slice vo fs.length vc) L k (SB.fN L) L.length) (hB : B ≤ W.heap.size) (hll : L.length + fs.length ≤ 900000) (hU : RdU W B vo fs) (hf64 : ∀ h ∈ fs, h < 2 ^ 64) (b : Nat) (hb64 : b < 2 ^ 64) (m : Nat)
   (cb : Calls Tryz.prog 102 #[.pointer (some ⟨P, 0, none⟩), .int .u64 (m : Int)] W fun e W' => e = .returned (.int .u64 (b : Int)) ∧ Below W.heap.size W W') :
   Calls Tryz.prog 74 #[.pointer (some ⟨P, 0, none⟩), .int .u64 (m : Int)] W fun e W' => ∃ g, e = .returned (.slice (some ⟨g, 0, none⟩) fs.length fs.length) ∧ W.heap.size ≤ g ∧ W'.heap[g]? = some (.cells ((SB.rowI b fs (SB.nx b fs L)).map (Value.int .i64)).toArray 3 (0, 0)) ∧
     MkB W' B P M A (.slice vo fs.length vc) (SB.nx b fs L) k (SB.fN (SB.nx b fs L)) (SB.nx b fs L).length ∧ MC B P M W W' := by
 have HH := hide h
 have es := elemSize43
 have es2 := elemSize45
 have hP0 := h.P0
 have hM0 := h.M0
 clear h
 go_enter Tryz.func74, Tryz.ntmps74
 go_wp2_with fail
 refine cb.mono ?_
 rintro e W1 ⟨rfl, hb1⟩
 have hk1 := HH.out.later hb1
 have hm1 := MC.of (B := B) (P := P) (M := M) hb1
 have hU1 := hU.mc hm1 hB hP0 hM0
 have hmk := mk_ints fs.length (by omega) W1
 have b2 := al1 W1 (.cells (SB.part fs.length []).toArray 3)
 have n2 := heap_alloc_new W1 (.cells (SB.part fs.length []).toArray 3)
 obtain ⟨X, hX⟩ : ∃ X, W1.alloc (.cells (SB.part fs.length []).toArray 3) = X := ⟨_, rfl⟩
 rw [hX] at hmk b2 n2
 obtain ⟨g, hg⟩ : ∃ g, W1.heap.size = g := ⟨_, rfl⟩
 have hgW : W.heap.size ≤ g := by have := hb1.size; omega
 have hBg : B ≤ g := Nat.le_trans hB hgW
 rw [hg] at hmk n2
 have hkX := hk1.later b2
 have hmX := hm1.trans (MC.of (B := B) (P := P) (M := M) b2)
 have hUX := hU.mc hmX hB hP0 hM0
 have hgP : g ≠ P := by have := hk1.lt.1; omega
 have hgM : g ≠ M := by have := hk1.lt.2; omega
 have hBX : B ≤ X.heap.size := Nat.le_trans hB hmX.size
 obtain ⟨th, tc, h1, h2⟩ := hk1.box
 obtain ⟨c0, c1, c2, c3, c4⟩ := cell5_at h1
 obtain ⟨th', tc', h1', _⟩ := hkX.box
 obtain ⟨d0, d1, d2, d3, d4⟩ := cell5_at h1'
 have HKX := hide hkX
 have HMX := hide hmX
 have HUX := hide hUX
 have HBB := hide hBX
 clear cb hk1 hm1 h2 hU hkX hmX hUX h1 h1' b2 hX hb1 hB hg hBX
 go_wp2
 clear c0 c1 c2 c3 c4 d0 d1 d2 d3 d4 hmk
 go_loopw [23] (fun u wr => ∃ i : Nat, u = .int .i64 (i : Int) ∧ i ≤ fs.length ∧ wr.heap[g]? = some (.cells (SB.part fs.length (SB.rowI b (fs.take i) (SB.nx b (fs.take i) L))).toArray 3 (0, 0)) ∧
   MkB wr B P M A (.slice vo fs.length vc) (SB.nx b (fs.take i) L) k (SB.fN (SB.nx b (fs.take i) L)) (SB.nx b (fs.take i) L).length ∧ MC B P M W wr ∧ B ≤ wr.heap.size ∧ RdU wr B vo fs) (fun u _ => fs.length - (intOf u).toNat)
 case atStart => exact ⟨0, rfl, Nat.zero_le _, n2, HKX.out, HMX.out, HBB.out, HUX.out⟩
 case round =>
   obtain ⟨i, rfl, hi, hrow, hk, hmc, hBr, hUr⟩ := hrel
   by_cases hlt : i < fs.length
   · obtain ⟨gv, ov, rfl, hgv, hcv⟩ := hUr i hlt
     have hlen : (fs.take i).length = i := by rw [List.length_take]; omega
     have hnl := SB.nx_len b (fs.take i) L
     have ht : fs.take (i + 1) = fs.take i ++ [fs[i]] := List.take_succ_eq_append_getElem hlt
     have hx64 := hf64 fs[i] (List.getElem_mem hlt)
     have hn := number_any hk hBr (by omega) (b &&& fs[i]) (Nat.and_lt_two_pow _ hx64)
     have hand := bits_and_u64_nat b fs[i] hb64 hx64
     have HNX : Hid (SB.nx b (fs.take (i + 1)) L = SB.num (SB.nx b (fs.take i) L) (b &&& fs[i])) := hide (by rw [ht, SB.nx_snoc])
     have HRW : Hid (SB.rowI b (fs.take (i + 1)) (SB.nx b (fs.take (i + 1)) L) = SB.rowI b (fs.take i) (SB.nx b (fs.take i) L) ++ [((SB.num (SB.nx b (fs.take i) L) (b &&& fs[i])).idxOf (b &&& fs[i]) : Int)]) := hide (by
       rw [ht, SB.nx_snoc]
       unfold SB.rowI
       rw [List.map_append]
       congr 1
       exact SB.rowI_pre (SB.num_pre _ _) (SB.nx_mem b _ L))
     obtain ⟨l, hl⟩ : ∃ l, SB.rowI b (fs.take i) (SB.nx b (fs.take i) L) = l := ⟨_, rfl⟩
     have hll2 : l.length = i := by rw [← hl]; unfold SB.rowI; rw [List.length_map, hlen]
     obtain ⟨L1, hL1⟩ : ∃ L1, SB.nx b (fs.take i) L = L1 := ⟨_, rfl⟩
     rw [hl] at hrow HRW
     rw [hL1] at hk hn HNX HRW hnl
     obtain ⟨z, hz⟩ : ∃ z, b &&& fs[i] = z := ⟨_, rfl⟩
     rw [hz] at hn hand HNX HRW
     obtain ⟨th, tc, h1, _⟩ := hk.box
     obtain ⟨d0, d1, d2, d3, d4⟩ := cell5_at h1
     generalize fs[i] = x at *
     have HT := hide (And.intro hmc (And.intro hBr hUr))
     have HRO := hide hrow
     clear h1 hmc hUr hrow hl hL1 hz ht hlen hx64 hf64
     go_wp2_with fail
     refine hn.mono ?_
     rintro e W2 ⟨rfl, hk2, hc2⟩
     have hr2 := hc2.row HRO.out (by decide) hgP hgM
     have hm2 := HT.out.1.trans hc2
     have hci := cells_idx hr2 (i := i) (v := .int .i64 0) (by
       unfold SB.part
       rw [List.getElem?_append_right (by simp [hll2]), List.length_map, hll2, Nat.sub_self, List.getElem?_replicate, if_pos (by omega)])
     have hfi : W2.frozen? ⟨g, i, none⟩ = false := U.frozen_at hr2
     obtain ⟨v, hv⟩ : ∃ v : Int, ((SB.num L1 z).idxOf z : Int) = v := ⟨_, rfl⟩
     rw [hv] at HRW
     have hset := cells_set (i := i) (v := .int .i64 v) hr2
     have hps := SB.part_set (n := fs.length) (l := l) (by omega) v
     rw [hll2] at hps
     rw [hps] at hset
     have HSET := hide hset
     have HK2 := hide (hk2.put3 (i := i) (v := .int .i64 v) hr2)
     have HM2 := hide (hm2.put (i := i) (v := .int .i64 v) hgW)
     have HU2 := hide ((HT.out.2.2.mc hc2 HT.out.2.1 hP0 hM0).put (i := i) (v := .int .i64 v) hBg)
     have HB2 : Hid (B ≤ (W2.setCell ⟨g, i, none⟩ (.int .i64 v)).heap.size) := hide (by have h1 := HT.out.2.1; have h2 := hc2.size; simp [World.setCell]; omega)
     clear hn hk2 hc2 hm2 hset hps
     go_wp2
     go_roundw
     case rel => exact ⟨i + 1, by go_num, by omega, by rw [HRW.out]; exact HSET.out, by rw [HNX.out]; exact HK2.out, HM2.out, HB2.out, HU2.out⟩
     case measure => simp [intOf] <;> omega
   · obtain rfl : i = fs.length := by omega
     rw [List.take_length] at hrow hk
     have hpf := SB.part_full (SB.rowI b fs (SB.nx b fs L))
     rw [show (SB.rowI b fs (SB.nx b fs L)).length = fs.length by unfold SB.rowI; rw [List.length_map]] at hpf
     rw [hpf] at hrow
     have HF := hide (And.intro hrow (And.intro hk hmc))
     clear hrow hk hmc hpf
     go_wp2
     go_ret
     exact ⟨g, rfl, hgW, HF.out.1, HF.out.2.1, HF.out.2.2⟩
end Go.Proofs.YtgngaldoemopjaaGreatDoor
namespace Go.Proofs.YtgngaldoemopjaaGreatDoor
open Go.RowKit Go.Shelf
attribute [local go_sem] Oper.semAt_some
namespace SB
def gr (bh : Nat → Nat) (fs : List Nat) : Nat → List Nat
 | 0 => [PA.bg]
 | k + 1 => nx (bh ((gr bh fs k).getD k 0)) fs (gr bh fs k)
theorem gr_le (bh : Nat → Nat) (fs : List Nat) {j k : Nat} (h : j ≤ k) : gr bh fs j <+: gr bh fs k := by
 induction k with
 | zero => obtain rfl : j = 0 := by omega
           exact List.prefix_refl _
 | succ k ih =>
   by_cases e : j = k + 1
   · subst e; exact List.prefix_refl _
   · exact (ih (by omega)).trans (nx_pre _ _ _)
theorem gr_pos (bh : Nat → Nat) (fs : List Nat) (k : Nat) : 0 < (gr bh fs k).length := Nat.lt_of_lt_of_le (show 0 < (gr bh fs 0).length by show 0 < [PA.bg].length; simp) (gr_le bh fs (Nat.zero_le k)).length_le
theorem gr_mem {bh : Nat → Nat} {fs : List Nat} {Q : Nat → Prop} (h0 : Q PA.bg) (hs : ∀ m, Q m → ∀ f ∈ fs, Q (bh m &&& f)) (hz : ∀ f ∈ fs, Q (bh 0 &&& f)) : ∀ k, ∀ m ∈ gr bh fs k, Q m
 | 0, m, hm => by rw [gr, List.mem_singleton] at hm; rw [hm]; exact h0
 | k + 1, m, hm => by
   have ih := gr_mem h0 hs hz k
   have key : ∀ (l : List Nat) (L : List Nat), (∀ f ∈ l, f ∈ fs) → (∀ x ∈ L, Q x) → ∀ x ∈ nx (bh ((gr bh fs k).getD k 0)) l L, Q x := by
     intro l
     induction l with
     | nil => intro L _ hL x hx; exact hL x hx
     | cons f l ihl =>
       intro L hl hL x hx
       refine ihl (num L (bh ((gr bh fs k).getD k 0) &&& f)) (fun g hg => hl g (List.mem_cons_of_mem _ hg)) (fun y hy => ?_) x hx
       unfold num at hy
       split at hy
       · exact hL y hy
       · rcases List.mem_append.1 hy with hy | hy
         · exact hL y hy
         · rw [List.mem_singleton.1 hy]
           have hf := hl f List.mem_cons_self
           by_cases hk : k < (gr bh fs k).length
           · rw [List.getD_eq_getElem?_getD, List.getElem?_eq_getElem hk, Option.getD_some]
             exact hs _ (ih _ (List.getElem_mem hk)) f hf
           · rw [List.getD_eq_getElem?_getD, List.getElem?_eq_none (by omega), Option.getD_none]
             exact hz f hf
   exact key fs _ (fun _ h => h) ih m hm
end SB
structure St3 where
 m : Nat
 acc : Bool
 g : Nat
def St3.cs (n : Nat) (s : St3) : List Value := [.int .u64 (s.m : Int), .bool s.acc, .slice (some ⟨s.g, 0, none⟩) n n]
def flat3 (n : Nat) (l : List St3) : List Value := l.flatMap (St3.cs n)
theorem flat3_snoc (n : Nat) (l : List St3) (s : St3) : flat3 n (l ++ [s]) = flat3 n l ++ s.cs n := by simp [flat3]
theorem flat3_at (n : Nat) : ∀ (l : List St3) (j : Nat) (h : j < l.length), (flat3 n l)[j * 3]? = some (.int .u64 (l[j].m : Int)) ∧ (flat3 n l)[j * 3 + 1]? = some (.bool l[j].acc) ∧ (flat3 n l)[j * 3 + 2]? = some (.slice (some ⟨l[j].g, 0, none⟩) n n)
 | s :: l, 0, _ => by simp [flat3, St3.cs]
 | s :: l, j + 1, h => by
   have := flat3_at n l j (by simpa using h)
   have e : flat3 n (s :: l) = s.cs n ++ flat3 n l := by simp [flat3]
   have hl : (s.cs n).length = 3 := rfl
   rw [e, show (j + 1) * 3 = 3 + j * 3 by omega, show 3 + j * 3 + 1 = 3 + (j * 3 + 1) by omega, show 3 + j * 3 + 2 = 3 + (j * 3 + 2) by omega, List.getElem?_append_right (by omega), List.getElem?_append_right (by omega), List.getElem?_append_right (by omega), hl, Nat.add_sub_cancel_left, Nat.add_sub_cancel_left, Nat.add_sub_cancel_left]
   exact this
theorem info74S : (Tryz.prog.info? 74).map (fun i => (i.zero, i.size, i.bytes)) = some (some (.agg #[.int .u64 0, .bool false, .slice none 0 0]), 3, 40) := by kernel_rfl
structure StW (W : World) (B P M n : Nat) (bh : Nat → Nat) (ac : Nat → Bool) (fs L : List Nat) (v : Value) (l : List St3) : Prop where
 own : W.ownsRow B 74 3 v l.length (flat3 n l)
 at_ : ∀ j (h : j < l.length), ∃ h2 : j < L.length, l[j].m = L[j] ∧ l[j].acc = ac L[j]
 row : ∀ s ∈ l, B ≤ s.g ∧ s.g ≠ P ∧ s.g ≠ M ∧ W.heap[s.g]? = some (.cells ((SB.rowI (bh s.m) fs L).map (Value.int .i64)).toArray 3 (0, 0)) ∧ ∀ f ∈ fs, bh s.m &&& f ∈ L
section
variable {W W' : World} {B P M n : Nat} {bh : Nat → Nat} {ac : Nat → Bool} {fs L L' : List Nat} {v : Value} {l : List St3}
theorem own_tag3 {e s m : Nat} {xs : List Value} (h : W.ownsRow B e s v m xs) {g : Nat} (hg : v.ownBlock = some g) : B ≤ g ∧ ∃ cs, W.heap[g]? = some (.cells cs e (0, 0)) := by
 obtain ⟨_, ⟨rfl, _⟩ | ⟨g', cap, cur, rfl, h3, h4, _⟩⟩ := h
 · cases hg
 · cases hg
   exact ⟨h3, cur, h4⟩
theorem own_same3 {e s m : Nat} {xs : List Value} (h : W.ownsRow B e s v m xs) (hs : ∀ g, v.ownBlock = some g → W'.heap[g]? = W.heap[g]?) : W'.ownsRow B e s v m xs := by
 obtain ⟨h1, h2 | ⟨g, cap, cur, rfl, h3, h4, h5⟩⟩ := h
 · exact ⟨h1, .inl h2⟩
 · exact ⟨h1, .inr ⟨g, cap, cur, rfl, h3, (hs g rfl).trans h4, h5⟩⟩
theorem StW.ext (h : StW W B P M n bh ac fs L v l) (hp : L <+: L') : StW W B P M n bh ac fs L' v l where
 own := h.own
 at_ := fun j hj => by
   obtain ⟨h2, h3, h4⟩ := h.at_ j hj
   have e := hp.getElem h2
   exact ⟨Nat.lt_of_lt_of_le h2 hp.length_le, by rw [h3, e], by rw [h4, e]⟩
 row := fun s hs => by
   obtain ⟨h1, h2, h3, h4, h5⟩ := h.row s hs
   exact ⟨h1, h2, h3, by rw [SB.rowI_pre hp h5]; exact h4, fun f hf => hp.subset (h5 f hf)⟩
theorem StW.mc (h : StW W B P M n bh ac fs L v l) (hm : MC B P M W W') (hv : ∀ g, v.ownBlock = some g → g ≠ P ∧ g ≠ M) : StW W' B P M n bh ac fs L v l where
 own := own_same3 h.own fun g hg => by
   obtain ⟨_, cs, h3⟩ := own_tag3 h.own hg
   exact (hm.row h3 (by decide) (hv g hg).1 (hv g hg).2).trans h3.symm
 at_ := h.at_
 row := fun s hs => by
   obtain ⟨h1, h2, h3, h4, h5⟩ := h.row s hs
   exact ⟨h1, h2, h3, hm.row h4 (by decide) h2 h3, h5⟩
theorem StW.nil (W : World) (B P M n : Nat) (bh : Nat → Nat) (ac : Nat → Bool) (fs L : List Nat) : StW W B P M n bh ac fs L (.slice none 0 0) [] := ⟨World.ownsRow_nil _ _ _ _, fun j hj => by simp at hj, fun s hs => by cases hs⟩
end
theorem StW.snoc {w0 W w1 : World} {P M n A k c : Nat} {vm v v' : Value} {bh : Nat → Nat} {ac : Nat → Bool} {fs L : List Nat} {f : Int → Option Int} {l : List St3} {o : Obj} (h : StW W w0.heap.size P M n bh ac fs L v l) (hk : MkB W w0.heap.size P M A vm L k f c) (hb : Below w0.heap.size w0 W)
   (hx : l.length < L.length) (s : St3) (hs1 : s.m = L[l.length]) (hs2 : s.acc = ac L[l.length]) (hg1 : w0.heap.size ≤ s.g) (hgP : s.g ≠ P) (hgM : s.g ≠ M) (hrow : W.heap[s.g]? = some (.cells ((SB.rowI (bh s.m) fs L).map (Value.int .i64)).toArray 3 (0, 0))) (hm5 : ∀ f ∈ fs, bh s.m &&& f ∈ L)
   (hown : w1.ownsRow w0.heap.size 74 3 v' (l.length + 1) (flat3 n l ++ s.cs n)) (hg : (W.alloc o).grownBy w1 v.ownBlock) :
   StW w1 w0.heap.size P M n bh ac fs L v' (l ++ [s]) ∧ MkB w1 w0.heap.size P M A vm L k f c ∧ Below w0.heap.size w0 w1 := by
 obtain ⟨th, tc, h1, h2⟩ := hk.box
 have ht : ∀ g, v.ownBlock = some g → w0.heap.size ≤ g ∧ ∃ cs, W.heap[g]? = some (.cells cs 74 (0, 0)) := fun g hg => own_tag3 h.own hg
 have hat : ∀ i (o' : Obj), W.heap[i]? = some o' → (∀ cs, o' ≠ .cells cs 74 (0, 0)) → w1.heap[i]? = some o' := fun i o' hi hn => (grown_at hg (Array.getElem?_eq_some_iff.1 hi).1 (fun e => by
   obtain ⟨_, cs, h4⟩ := ht i e
   rw [hi] at h4
   cases h4
   exact hn cs rfl)).trans hi
 have hP := hat P _ h1 (fun cs e => by cases e)
 have hM : w1.heap[M]? = W.heap[M]? := by
   obtain ⟨D, ⟨es, cl, h4, _⟩, _⟩ := hk.map
   exact (hat M _ h4 (fun cs e => by cases e)).trans h4.symm
 refine ⟨⟨by rw [List.length_append, flat3_snoc]; exact hown, fun j hj => ?_, fun s' hs' => ?_⟩, hk.kept (hP.trans h1.symm) hM (fun i cs _ hi => (hat i _ hi (fun cs e => by cases e)).trans hi.symm), ?_⟩
 · by_cases e : j < l.length
   · obtain ⟨h5, h6, h7⟩ := h.at_ j e
     refine ⟨h5, ?_, ?_⟩ <;> rw [List.getElem_append_left e] <;> assumption
   · obtain rfl : j = l.length := by rw [List.length_append, List.length_singleton] at hj; omega
     refine ⟨hx, ?_, ?_⟩ <;> rw [List.getElem_append_right (Nat.le_refl _)] <;> simp [hs1, hs2]
 · rcases List.mem_append.1 hs' with h5 | h5
   · obtain ⟨g1, g2, g3, g4, g5⟩ := h.row s' h5
     exact ⟨g1, g2, g3, hat _ _ g4 (fun cs e => by cases e), g5⟩
   · rw [List.mem_singleton.1 h5]
     exact ⟨hg1, hgP, hgM, hat _ _ hrow (fun cs e => by cases e), hm5⟩
 · have hs := hb.size
   have hz := hg.size
   rw [World.size_alloc] at hz
   exact ⟨hg.os.trans hb.os, hg.tape.trans hb.tape, hg.output.trans hb.output, by omega, fun i hi => (grown_at hg (by omega) (fun e => by have := (ht i e).1; omega)).trans (hb.block i hi)⟩
end Go.Proofs.YtgngaldoemopjaaGreatDoor
namespace Go.Proofs.YtgngaldoemopjaaGreatDoor
open Go.RowKit Go.Shelf
attribute [local go_sem] Oper.semAt_some
theorem qtake_any {W : World} {B P M A : Nat} {vm : Value} {L : List Nat} {k c : Nat} {f : Int → Option Int} (h : MkB W B P M A vm L k f c) (hk : k ≤ L.length) (hl : L.length ≤ 1000000) :
   Calls Tryz.prog 73 #[.pointer (some ⟨P, 3, none⟩)] W fun e W' => ∃ (x : Nat) (ok : Bool) (k' : Nat), e = .returned (.tuple #[.int .u64 (x : Int), .bool ok]) ∧ MkB W' B P M A vm L k' f c ∧ MC B P M W W' ∧ ((ok = true ∧ L[k]? = some x ∧ k' = k + 1) ∨ (ok = false ∧ k = L.length ∧ k' = k)) := by
 by_cases e : k = L.length
 · subst e
   exact (take_none h).mono fun e W' ⟨h1, h2, h3⟩ => ⟨0, false, _, h1, h2, h3, .inr ⟨rfl, rfl, rfl⟩⟩
 · have hlt : k < L.length := by omega
   exact (take_some h hlt hl).mono fun e W' ⟨h1, h2, h3⟩ => ⟨L[k], true, _, h1, h2, h3, .inl ⟨rfl, List.getElem?_eq_getElem hlt, rfl⟩⟩
def slen : Value → Nat
 | .slice _ n _ => n
 | _ => 0
theorem RdU.later {w W : World} {vo : Option Addr} {fs : List Nat} (h : RdU w w.heap.size vo fs) (hb : Below w.heap.size w W) : RdU W w.heap.size vo fs := fun i hi => by
 obtain ⟨g, off, e, hg, hc⟩ := h i hi
 exact ⟨g, off, e, hg, cell_later hb hc⟩
theorem new_cells3 (W : World) (xs : List Value) (t : TypeId) (cs : Array Value) (hcs : cs = xs.toArray) : ∀ j u, xs[j]? = some u → (W.alloc (.cells cs t)).cell? ((⟨W.heap.size, 0, none⟩ : Addr).add j) = some u := by
 intro j u hj
 subst hcs
 rw [Addr.add_mid]
 simp only [World.cell?, heap_alloc_new, Nat.zero_add]
 simpa using hj
theorem three_one (n : Nat) (s : St3) : ∀ u ∈ s.cs n, u.oneCell' = true := by
 intro u hu
 simp only [St3.cs, List.mem_cons, List.not_mem_nil, or_false] at hu
 rcases hu with rfl | rfl | rfl <;> rfl
theorem own_slice3 {w : World} {B e s n : Nat} {v : Value} {xs : List Value} (h : w.ownsRow B e s v n xs) : ∃ ao c, v = .slice ao n c := by
 obtain ⟨_, ⟨rfl, rfl⟩ | ⟨g, cap, cur, rfl, _⟩⟩ := h
 · exact ⟨_, _, rfl⟩
 · exact ⟨_, _, rfl⟩
def AnsO (w : World) (n : Nat) (bh : Nat → Nat) (ac : Nat → Bool) (fs : List Nat) (e : Ending) (W : World) : Prop :=
 (e = .returned (.tuple #[.slice none 0 0, .int .i64 140]) ∧ ∃ k, k < (SB.gr bh fs k).length ∧ (∀ j ≤ k, (SB.gr bh fs j).length ≤ 128) ∧ 128 < (SB.gr bh fs (k + 1)).length) ∨
 (∃ v k l P M, e = .returned (.tuple #[v, .int .i64 0]) ∧ (SB.gr bh fs k).length = k ∧ (∀ j < k, j < (SB.gr bh fs j).length) ∧ k ≤ 128 ∧ l.length = k ∧ StW W w.heap.size P M n bh ac fs (SB.gr bh fs k) v l)
set_option maxRecDepth 100000 in
set_option maxHeartbeats 8000000 in
theorem statesOf_any (w : World) (A : Nat) (vo : Option Addr) (vc : Nat) (fs : List Nat) (bh : Nat → Nat) (ac : Nat → Bool) (hn : fs.length ≤ 700000) (hU : RdU w w.heap.size vo fs) (hf64 : ∀ h ∈ fs, h < 2 ^ 64) (hbh : ∀ m, bh m < 2 ^ 64)
   (hgm : ∀ k, ∀ m ∈ SB.gr bh fs k, m < 2 ^ 64)
   (c25 : ∀ W, Below w.heap.size w W → ∀ m : Nat, m < 2 ^ 64 → Calls Tryz.prog 25 #[.pointer (some ⟨A, 0, none⟩), .int .u64 (m : Int)] W fun e W' => e = .returned (.bool (ac m)) ∧ W' = W)
   (c102 : ∀ W P M vm L k c f, Below w.heap.size w W → MkB W w.heap.size P M A vm L k f c → ∀ j, ∀ m ∈ SB.gr bh fs j, Calls Tryz.prog 102 #[.pointer (some ⟨P, 0, none⟩), .int .u64 (m : Int)] W fun e W' => e = .returned (.int .u64 (bh m : Int)) ∧ Below W.heap.size W W') :
   Calls Tryz.prog 40 #[.pointer (some ⟨A, 0, none⟩), .slice vo fs.length vc] w fun e W => AnsO w fs.length bh ac fs e W ∧ Below w.heap.size w W := by
 obtain ⟨i0, hi0, hz0, hz1, hz2⟩ : ∃ i, Tryz.prog.info? 74 = some i ∧ i.zero = some (.agg #[.int .u64 0, .bool false, .slice none 0 0]) ∧ i.size = 3 ∧ i.bytes = 40 := by
   have h := info74S
   cases hi : Tryz.prog.info? 74 with
   | none => rw [hi] at h; cases h
   | some i => rw [hi] at h; simp at h; exact ⟨i, rfl, h.1, h.2.1, h.2.2⟩
 have a1 := al1 w (.map #[] 0)
 have mn := Mn.made w
 have s1 : (w.alloc (.map #[] 0)).heap.size = w.heap.size + 1 := by simp
 obtain ⟨X1, hX1⟩ : ∃ X1, w.alloc (.map #[] 0) = X1 := ⟨_, rfl⟩
 rw [hX1] at a1 mn s1
 have a2 := al1 X1 (.cells #[.pointer (some ⟨A, 0, none⟩), .slice vo fs.length vc, .map (some w.heap.size), .slice none 0 0, .int .i64 0] 150)
 have n2 := heap_alloc_new X1 (.cells #[.pointer (some ⟨A, 0, none⟩), .slice vo fs.length vc, .map (some w.heap.size), .slice none 0 0, .int .i64 0] 150)
 obtain ⟨X, hX⟩ : ∃ X, X1.alloc (.cells #[.pointer (some ⟨A, 0, none⟩), .slice vo fs.length vc, .map (some w.heap.size), .slice none 0 0, .int .i64 0] 150) = X := ⟨_, rfl⟩
 rw [hX] at a2 n2
 have bX := nx a1 a2
 have hk0 : MkB X w.heap.size X1.heap.size w.heap.size A (.slice vo fs.length vc) [] 0 (SB.fN []) ([] : List Nat).length := ⟨⟨none, 0, n2, World.ownsRow_nil _ _ _ _⟩, by rw [SB.fN_nil]; exact mn.kept (a2.block _ (by omega)), by omega, Nat.le_refl _⟩
 have hnum := number_any hk0 bX.size (by simp) PA.bg (by decide)
 obtain ⟨P, hP⟩ : ∃ P, X1.heap.size = P := ⟨_, rfl⟩
 have hwP : w.heap.size ≤ P := by omega
 rw [hP] at hnum
 have HB := hide bX
 rw [show ((PA.bg : Nat) : Int) = 9223372036854775808 from rfl] at hnum
 have HX1 := hX1
 clear a1 a2 mn n2 hk0 s1 bX
 have hmm := @run_makeMap Tryz.prog
 go_enter Tryz.func40, Tryz.ntmps40
 go_wp2_with fail
 refine hnum.mono ?_
 rintro e W1 ⟨rfl, hk1, hc1⟩
 have hB1 : Below w.heap.size w W1 := MC.below HB.out hc1 HB.out.size hwP (Nat.le_refl _)
 have e0 : SB.num [] PA.bg = SB.gr bh fs 0 := by unfold SB.num; rw [if_neg (by simp)]; rfl
 rw [e0] at hk1
 have ht := qtake_any hk1 (by omega) (by show [PA.bg].length ≤ _; simp)
 have h01 : (SB.gr bh fs 0).length = 1 := rfl
 have HB1 := hide hB1
 obtain ⟨d0, d1, d2, d3, d4⟩ : ∃ th tc, W1.heap[P]? = some (.cells #[.pointer (some ⟨A, 0, none⟩), .slice vo fs.length vc, .map (some w.heap.size), .slice th (SB.gr bh fs 0).length tc, .int .i64 ((0 : Nat) : Int)] 150) ∧ True ∧ True := by
   obtain ⟨th, tc, h, _⟩ := hk1.box
   exact ⟨th, tc, h, trivial, trivial⟩
 clear hnum hk1 hc1 hB1 d4 d3 e0 HX1 hX1 hX hP
 go_wp2_with fail
 refine ht.mono ?_
 rintro e W2 ⟨x, ok, k', rfl, hk2, hc2, hd⟩
 have hB2 : Below w.heap.size w W2 := MC.below HB1.out hc2 HB1.out.size hwP (Nat.le_refl _)
 have HS := hide (And.intro hk2 (And.intro hB2 hd))
 clear ht hk2 hc2 hB2 hd d2 HB HB1 h01
 go_wp2
 go_loopw [7, 8, 9] (fun p u v wr => ∃ (k x : Nat) (ok : Bool) (k' : Nat) (l : List St3), u = .int .u64 (x : Int) ∧ v = .bool ok ∧ l.length = k ∧ k ≤ (SB.gr bh fs k).length ∧ Hid ((∀ j ≤ k, (SB.gr bh fs j).length ≤ 128) ∧ ∀ j < k, j < (SB.gr bh fs j).length) ∧
   Hid (MkB wr w.heap.size P w.heap.size A (.slice vo fs.length vc) (SB.gr bh fs k) k' (SB.fN (SB.gr bh fs k)) (SB.gr bh fs k).length) ∧ Hid (StW wr w.heap.size P w.heap.size fs.length bh ac fs (SB.gr bh fs k) p l) ∧ Hid (Below w.heap.size w wr) ∧ ((ok = true ∧ (SB.gr bh fs k)[k]? = some x ∧ k' = k + 1) ∨ (ok = false ∧ k = (SB.gr bh fs k).length ∧ k' = k))) (fun p _ _ _ => 200 - slen p)
 case atStart =>
   exact ⟨0, x, ok, k', [], rfl, rfl, rfl, Nat.zero_le _, hide ⟨fun j hj => by obtain rfl : j = 0 := (by omega); exact (show [PA.bg].length ≤ 128 by simp), fun j hj => absurd hj (by omega)⟩, hide HS.out.1, hide (StW.nil _ _ _ _ _ _ _ _ _), hide HS.out.2.1, HS.out.2.2⟩
 case round =>
   obtain ⟨k, x, ok, k', l, rfl, rfl, rfl, hkl, HG, HK, HW, HB, hd⟩ := hrel
   obtain ⟨po, pc, rfl⟩ := own_slice3 HW.out.own
   rcases hd with ⟨rfl, hxk, rfl⟩ | ⟨rfl, hke, _⟩
   · have hlt : l.length < (SB.gr bh fs l.length).length := (List.getElem?_eq_some_iff.1 hxk).1
     have hxm : x ∈ SB.gr bh fs l.length := List.mem_of_getElem? hxk
     have hx64 := hgm l.length x hxm
     have h128 := HG.out.1 l.length (Nat.le_refl _)
     have hac := c25 wr HB.out x hx64
     have hnx := snext_any HK.out HB.out.size (by omega) (hU.later HB.out) hf64 (bh x) (hbh x) x (c102 wr P w.heap.size _ _ _ _ _ HB.out HK.out l.length x hxm)
     have HGR : Hid (SB.nx (bh x) fs (SB.gr bh fs l.length) = SB.gr bh fs (l.length + 1)) := hide (by
       rw [SB.gr, List.getD_eq_getElem?_getD, hxk]
       rfl)
     rw [HGR.out] at hnx
     have hpl := SB.gr_le bh fs (show l.length ≤ l.length + 1 by omega)
     have hmm := SB.nx_mem (bh x) fs (SB.gr bh fs l.length)
     rw [HGR.out] at hmm
     have hlen1 := SB.nx_len (bh x) fs (SB.gr bh fs l.length)
     rw [HGR.out] at hlen1
     have hx1 : (SB.gr bh fs (l.length + 1))[l.length]? = some x := by
       obtain ⟨r, hr⟩ := hpl
       rw [← hr, List.getElem?_append_left hlt, hxk]
     have HAL := hide (And.intro hpl (And.intro hmm hx1))
     have HMS := hide (fun (W : World) (hq : 128 < (SB.gr bh fs (l.length + 1)).length) => (show AnsO w fs.length bh ac fs (.returned (.tuple #[.slice none 0 0, .int .i64 140])) W from .inl ⟨rfl, l.length, hlt, HG.out.1, hq⟩))
     obtain ⟨acx, hacx⟩ : ∃ acx, ac x = acx := ⟨_, rfl⟩
     rw [hacx] at hac
     have HAC := hide hacx
     have HLT := hide hlt
     have HX0 := hide hxk
     clear hpl hmm hx1 hacx hxk hxm
     go_wp2_with fail
     refine hac.mono ?_
     rintro e Wq ⟨rfl, rfl⟩
     clear hac
     go_wp2_with fail
     refine hnx.mono ?_
     rintro e W3 ⟨g, rfl, hgs, hrow, hk3, hc3⟩
     have hgP : g ≠ P := by have := HK.out.lt.1; omega
     have hgM : g ≠ w.heap.size := by have := HK.out.lt.2; omega
     have hB3 : Below w.heap.size w W3 := MC.below HB.out hc3 HB.out.size hwP (Nat.le_refl _)
     have hv : ∀ q, (Value.slice po l.length pc).ownBlock = some q → q ≠ P ∧ q ≠ w.heap.size := fun q hq => by
       obtain ⟨_, cs, h4⟩ := own_tag3 HW.out.own hq
       refine ⟨fun e => ?_, fun e => ?_⟩
       · subst e
         obtain ⟨th, tc, h5, _⟩ := HK.out.box
         rw [h5] at h4
         cases h4
       · subst e
         obtain ⟨D, ⟨es, cl, h5, _⟩, _⟩ := HK.out.map
         rw [h5] at h4
         cases h4
     have hW3 := (HW.out.ext HAL.out.1).mc hc3 hv
     have hOa : (W3.alloc (.cells #[.int .u64 (x : Int), .bool acx, .slice (some ⟨g, 0, none⟩) fs.length fs.length] 74)).ownsRow w.heap.size 74 3 (.slice po l.length pc) l.length (flat3 fs.length l) := own_same3 hW3.own fun q hq => by
       obtain ⟨_, cs, h4⟩ := own_tag3 hW3.own hq
       exact Below.heap_alloc _ _ _ (Array.getElem?_eq_some_iff.1 h4).1
     have hl1 : l.length < (SB.gr bh fs (l.length + 1)).length := Nat.lt_of_lt_of_le HLT.out HAL.out.1.length_le
     have he1 : (SB.gr bh fs (l.length + 1))[l.length] = x := by
       have := HAL.out.2.2
       rw [List.getElem?_eq_getElem hl1] at this
       exact Option.some.inj this
     have HF := hide (fun (w1 : World) (v' : Value) hown hg => StW.snoc (w1 := w1) (v' := v') (o := .cells #[.int .u64 (x : Int), .bool acx, .slice (some ⟨g, 0, none⟩) fs.length fs.length] 74) hW3 hk3 hB3 hl1 ⟨x, acx, g⟩ he1.symm (by rw [he1]; exact HAC.out.symm) (by have := HB.out.size; show w.heap.size ≤ g; omega) hgP hgM hrow HAL.out.2.1 hown hg)
     have hs3 := hB3.size
     obtain ⟨n1, hn1⟩ : ∃ n1, (SB.gr bh fs (l.length + 1)).length = n1 := ⟨_, rfl⟩
     have HN1 := hide hn1
     clear hnx hrow hk3 hc3 hW3 hv he1 hl1 hU hf64 hbh hgm c102 c25 HS hlen1
     by_cases hbig : 128 < n1
     · go_wp2_with (at_builtin; (refine wpList_append_own_at _ rfl _ _ 70 rfl w.heap.size 74 i0 (.agg #[.int .u64 0, .bool false, .slice none 0 0]) 3 40 Tryz.underlying70 hi0 hz0 hz1 hz2 rfl (by decide) (.slice po l.length pc) l.length (flat3 fs.length l) rfl hOa ⟨W3.heap.size, 0, none⟩ 1 1 (St3.cs fs.length ⟨x, acx, g⟩) rfl rfl (new_cells3 _ _ _ _ rfl) (three_one _ _) (by unfold maxLen; omega) (by omega) (by simp; omega) ?_; intro v1 w1 hown' hgrow _ hat; obtain ⟨g', cap', rfl⟩ := ownsRow_succ hown'; have hfin := HF.out w1 _ hown' hgrow; have HFIN := hide hfin; obtain ⟨th1, tc1, hbx1, _⟩ := hfin.2.1.box; obtain ⟨d0, d1, d2, d3, d4⟩ := cell5_at hbx1; have hlen := hfin.2.1.map.len 3; rw [hn1] at hlen; clear hfin hbx1 hown' hgrow hat))
       exact bodyPost_ret (v := .tuple #[.slice none 0 0, .int .i64 140]) (by simp [results, Tryz.results40, go_sem]) rfl ⟨HMS.out w1 (by rw [HN1.out]; exact hbig), HFIN.out.2.2⟩
     · go_wp2_with (at_builtin; (refine wpList_append_own_at _ rfl _ _ 70 rfl w.heap.size 74 i0 (.agg #[.int .u64 0, .bool false, .slice none 0 0]) 3 40 Tryz.underlying70 hi0 hz0 hz1 hz2 rfl (by decide) (.slice po l.length pc) l.length (flat3 fs.length l) rfl hOa ⟨W3.heap.size, 0, none⟩ 1 1 (St3.cs fs.length ⟨x, acx, g⟩) rfl rfl (new_cells3 _ _ _ _ rfl) (three_one _ _) (by unfold maxLen; omega) (by omega) (by simp; omega) ?_; intro v1 w1 hown' hgrow _ hat; obtain ⟨g', cap', rfl⟩ := ownsRow_succ hown'; have hfin := HF.out w1 _ hown' hgrow; have HFIN := hide hfin; obtain ⟨th1, tc1, hbx1, _⟩ := hfin.2.1.box; obtain ⟨d0, d1, d2, d3, d4⟩ := cell5_at hbx1; have hlen := hfin.2.1.map.len 3; rw [hn1] at hlen; clear hfin hbx1 hown' hgrow hat))
       have ht := qtake_any HFIN.out.2.1 (by have := HLT.out; have := HAL.out.1.length_le; omega) (by rw [HN1.out]; omega)
       have HF2 := hide (fun (W4 : World) hc4 => (MC.below (W' := W4) HFIN.out.2.2 hc4 HFIN.out.2.2.size hwP (Nat.le_refl _) : Below w.heap.size w W4))
       refine ht.mono ?_
       rintro e W4 ⟨x4, ok4, k4, rfl, hk4, hc4, hd4⟩
       have hW4 := HFIN.out.1.mc hc4 (fun q hq => by
         obtain ⟨_, cs, h4⟩ := own_tag3 HFIN.out.1.own hq
         refine ⟨fun e => ?_, fun e => ?_⟩
         · subst e
           obtain ⟨th, tc, h5, _⟩ := HFIN.out.2.1.box
           rw [h5] at h4
           cases h4
         · subst e
           obtain ⟨D, ⟨es, cl, h5, _⟩, _⟩ := HFIN.out.2.1.map
           rw [h5] at h4
           cases h4)
       have HK4 := hide hk4
       have HW4 := hide hW4
       have HB4 := hide (HF2.out W4 hc4)
       have HG4 : Hid ((∀ j ≤ l.length + 1, (SB.gr bh fs j).length ≤ 128) ∧ ∀ j < l.length + 1, j < (SB.gr bh fs j).length) := hide ⟨fun j hj => by
         by_cases e : j = l.length + 1
         · rw [e, HN1.out]; omega
         · exact HG.out.1 j (by omega), fun j hj => by
         by_cases e : j = l.length
         · rw [e]; exact HLT.out
         · exact HG.out.2 j (by omega)⟩
       have hle4 : l.length + 1 ≤ (SB.gr bh fs (l.length + 1)).length := by have := HLT.out; have := HAL.out.1.length_le; omega
       clear ht hk4 hc4 hW4 hOa hlen d0 d1 d2 d3 d4
       go_wp2
       go_roundw
       case rel => exact ⟨l.length + 1, x4, ok4, k4, l ++ [⟨x, acx, g⟩], rfl, rfl, by simp, hle4, HG4, HK4, HW4, HB4, hd4⟩
       case measure => simp [slen] <;> omega
   · have HA := hide (show AnsO w fs.length bh ac fs (.returned (.tuple #[.slice po l.length pc, .int .i64 0])) wr from .inr ⟨_, l.length, l, P, w.heap.size, rfl, hke.symm, HG.out.2, by have := HG.out.1 l.length (Nat.le_refl _); omega, rfl, HW.out⟩)
     clear hU hf64 hbh hgm c102 c25 HS
     go_wp2
     exact bodyPost_ret (v := .tuple #[.slice po l.length pc, .int .i64 0]) (by simp [results, Tryz.results40, go_sem]) rfl ⟨HA.out, HB.out⟩
end Go.Proofs.YtgngaldoemopjaaGreatDoor
