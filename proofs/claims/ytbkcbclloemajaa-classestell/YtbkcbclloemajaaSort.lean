/- What an iterator gives, sorted by first numbers (slices.SortedFunc). -/
import Derived.Shelf.SlSortCmp.NoneTotal
import Derived.Test.YtbkcbclloemajaaColl
import Derived.Test.YtbkcbclloemajaaShelf
namespace Go.Proofs.Ytbkcbclloemajaa
open Go.RowKit Go.Shelf Go.Sort

def encR (x : S.R) : List Value := [.int .i32 x.1, .int .i32 x.2]
def cf (x y : S.R) : Int := if x.1 < y.1 then -1 else if y.1 < x.1 then 1 else 0
theorem lt_cf (x y : S.R) : ltOf cf x y = decide (x.1 < y.1) := by
  unfold ltOf cf
  by_cases h1 : x.1 < y.1
  · simp [h1]
  · by_cases h2 : y.1 < x.1 <;> simp [h1, h2]
theorem swo : SWO (ltOf cf) where
  irrefl x := by rw [lt_cf]; simp
  trans x y z h1 h2 := by rw [lt_cf] at *; simp at *; omega
  ntrans x y z h1 h2 := by rw [lt_cf] at *; simp at *; omega

set_option maxHeartbeats 1000000 in
theorem closure_any (x y : S.R) (W : World) : Calls Try.prog 53 #[.agg #[.int .i32 x.1, .int .i32 x.2], .agg #[.int .i32 y.1, .int .i32 y.2]] W fun e w' => e = .returned (.int .i64 (cf x y)) ∧ ∃ q os', w' = grow (W.drewN q) os' := by
  have hcon := fun W' => cmp_any x.1 y.1 W'
  rw [show (if x.1 < y.1 then (-1 : Int) else if y.1 < x.1 then 1 else 0) = cf x y from rfl] at hcon
  generalize cf x y = r at hcon ⊢
  go_enter Try.func53, Try.ntmps53
  go_wp2_with (go_at_call 54; refine (hcon _).mono ?_; rintro e w' ⟨rfl, rfl⟩)
  go_ret
  exact ⟨rfl, 0, _, by rw [alloc_eq_grow, alloc_eq_grow, grow_grow]; rfl⟩
theorem cmpLays (blk off size : Nat) (w : World) : CmpLays Try.prog 53 #[] encR 2 cf blk off size w :=
  fun _ _ _ _ x y => closure_any x y _

theorem below_sort {w : World} {B g n : Nat} {d : Array S.R} {os : Array Obj} (hg : B ≤ g) (hB : B ≤ w.heap.size) : RowKit.Below B w (sortWorldK encR 2 w g 0 n d os) := by
  have h : RowKit.Below B w (putRow id (Sort.ahead w n) g 0 (flatK encR 2 d)) := ⟨rfl, rfl, rfl, by simp [putRow, mapBlock, Sort.ahead], fun k hk => by
    simp [putRow, mapBlock, Sort.ahead, Array.getElem?_modify, show g ≠ k by omega]⟩
  refine ⟨h.os, h.tape, h.output, ?_, fun k hk => ?_⟩
  · have := h.size
    unfold sortWorldK putRowK
    rw [size_grow]
    omega
  · unfold sortWorldK putRowK
    rw [heap_grow_old _ _ (by have := h.size; omega)]
    exact h.block k hk
theorem enc_at (d : Array S.R) (i : Nat) (h : i < d.size) : (encR d[i]!)[0]! = .int .i32 d[i].1 ∧ (encR d[i]!)[1]! = .int .i32 d[i].2 := by
  rw [getElem!_pos d i h]
  exact ⟨rfl, rfl⟩
theorem holds_own {w : World} {B g cap : Nat} {zs : List S.R} (h : OwnR w B 76 (.slice (some ⟨g, 0, none⟩) zs.length cap) zs) : HoldsK encR 2 w g 0 zs.toArray := by
  have hrd := h.rd
  obtain ⟨ao, c, e, _, _, hr⟩ := hrd
  cases e
  obtain ⟨_, ⟨e, _⟩ | ⟨g', cap', cur, e, _, hgb, _⟩⟩ := h
  · cases e
  cases e
  intro j hj
  rw [size_flatK] at hj
  have hj2 : j / 2 < zs.length := by simp at hj; omega
  obtain ⟨b, off, e, h1, h2⟩ := hr (j / 2) hj2
  cases e
  have he := enc_at zs.toArray (j / 2) (by simpa using hj2)
  rw [get_flatK _ _ _ _ hj]
  refine ⟨?_, by simp [World.frozen?, hgb]⟩
  rcases Nat.mod_two_eq_zero_or_one j with hm | hm
  · rw [hm, show (0 : Nat) + j = 0 + j / 2 * 2 by omega, h1]
    exact congrArg some he.1.symm
  · rw [hm, show (0 : Nat) + j = 0 + j / 2 * 2 + 1 by omega, h2]
    exact congrArg some he.2.symm
theorem rd_holds {w : World} {g : Nat} {d : Array S.R} (h : HoldsK encR 2 w g 0 d) : RdR w (some ⟨g, 0, none⟩) d.toList := by
  intro i hi
  have hi' : i < d.size := by simpa using hi
  have he := enc_at d i hi'
  have h0 := (h.cell (i := i) (c := 0) hi' (by omega)).1
  have h1 := (h.cell (i := i) (c := 1) hi' (by omega)).1
  rw [he.1] at h0
  rw [he.2] at h1
  exact ⟨g, 0, rfl, by simpa using h0, by simpa using h1⟩
theorem perm_of {d d' : Array S.R} (h : PermIn 0 d.size d d') : d'.toList.Perm d.toList := by
  have h1 := h.1
  have h2 := h.2.2
  rw [Array.extract_size] at h2
  rw [← h1, Array.extract_size] at h2
  exact h2
theorem sorted_of {d : Array S.R} {n : Nat} (hn : n = d.size) (h : SortedIn (ltOf cf) 0 n d) : d.toList.Pairwise fun a b => a.1 ≤ b.1 := by
  subst hn
  rw [List.pairwise_iff_getElem]
  intro i j hi hj hij
  have := h i j (Nat.zero_le _) hij (by simpa using hj)
  rw [lt_cf, getElem!_pos d j (by simpa using hj), getElem!_pos d i (by simpa using hi)] at this
  simp at this
  simpa using this

set_option maxHeartbeats 1000000 in
theorem sorted_any (v0 : Value) (zs : List S.R) (hl : zs.length ≤ 1000000) (w : World) (hit : Iter v0 zs w) :
    Calls Try.prog 52 #[v0, .func (.func 53) #[] #[]] w fun e W' => ∃ ao cap d, e = .returned (.slice ao d.length cap) ∧ RdR W' ao d ∧ d.Perm zs ∧ d.Pairwise (fun a b => a.1 ≤ b.1) ∧ RowKit.Below w.heap.size w W' := by
  have h := collect_any v0 zs hl w hit
  obtain ⟨gf, lb, rfl, _, _⟩ := hit
  go_enter Try.func52, Try.ntmps52
  go_wp2_with fail
  refine h.mono ?_
  rintro e w1 ⟨u, rfl, ho, hb⟩
  obtain ⟨ao, cap, rfl, hcap, hnil, hrd⟩ := ho.rd
  cases zs with
  | nil =>
    have hs := AnyF.slices_SortFunc_none (P := Try.prog) sortIv ao cap (.func (.func 53) #[] #[]) w1
    change Calls Try.prog 59 _ _ _ at hs
    clear hrd ho
    go_wp2_with (go_at_call 59; refine hs.mono ?_; rintro e w2 ⟨rfl, rfl⟩)
    go_ret
    exact ⟨ao, cap, [], rfl, rdr_nil _ _, List.Perm.refl _, List.Pairwise.nil, hb⟩
  | cons z zs =>
    obtain ⟨b, off, rfl, _, _⟩ := hrd 0 (by simp)
    have ho' := ho
    obtain ⟨_, ⟨e, _⟩ | ⟨g', cap', cur, e, hB, hgb, _⟩⟩ := ho'
    · cases e
    cases e
    have hs := AnyQ.slices_SortFunc (P := Try.prog) sortIv 2 Try.isAgg76 Try.sizeOf76 encR (fun _ => rfl) (fun x v hv => by simp [encR] at hv; rcases hv with rfl | rfl <;> rfl) cf swo 53 #[] b 0 cap (z :: zs).toArray w1 (enters_of Try.func53 (by kernel_rfl) rfl) (cmpLays b 0 _ w1) (holds_own ho) (Array.getElem?_eq_some_iff.1 hgb).1 (by simp at hl ⊢; omega)
    change Calls Try.prog 59 _ _ _ at hs
    have hH := holds_own ho
    have hlt := (Array.getElem?_eq_some_iff.1 hgb).1
    have hh := hb.size
    rw [List.size_toArray] at hs
    clear hrd ho hgb
    go_wp2_with (go_at_call 59; refine hs.mono ?_; rintro e w2 ⟨rfl, d', n, os, hp, hsd, rfl⟩)
    go_ret
    have hpm := perm_of (d := (z :: zs).toArray) (by rw [List.size_toArray]; exact hp)
    have hsz : d'.size = (z :: zs).length := by have := hp.1; simpa using this
    refine ⟨_, cap, d'.toList, by simp [hsz], rd_holds (holdsK_sortWorldK_c encR 2 w1 b 0 _ d' n os hH hlt (by simpa using hsz)), hpm, sorted_of hsz.symm hsd, ?_⟩
    exact hb.trans (below_sort hB hh)
end Go.Proofs.Ytbkcbclloemajaa
