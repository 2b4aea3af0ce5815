/- The regions of Cut that append: their walks. -/
import Derived.Test.YtbkcbclloemajaaRegu
namespace Go.Proofs.Ytbkcbclloemajaa
open Go.RowKit Go.Shelf

theorem cell_at {w : World} {b j : Nat} {cs : Array Value} {t : TypeId} {fz : Nat × Nat} {v : Value} (h : w.heap[b]? = some (.cells cs t fz)) (hj : cs[j]? = some v) : w.cell? ⟨b, j, none⟩ = some v := by simp [World.cell?, h, hj]
theorem frozen_at {w : World} {b j : Nat} {cs : Array Value} {t : TypeId} (h : w.heap[b]? = some (.cells cs t (0, 0))) : w.frozen? ⟨b, j, none⟩ = false := by simp [World.frozen?, h]
theorem set_at {w : World} {b j : Nat} {cs : Array Value} {t : TypeId} {fz : Nat × Nat} (v : Value) (h : w.heap[b]? = some (.cells cs t fz)) : (w.setCell ⟨b, j, none⟩ v).heap[b]? = some (.cells (cs.setIfInBounds j v) t fz) := by
  rw [Sort.setCell_eq]
  unfold Sort.mapBlock
  rw [Array.getElem?_modify, if_pos rfl, h]
  rfl
theorem chg_set (w : World) (b j : Nat) (v : Value) : Chg (fun k => k = b) w (w.setCell ⟨b, j, none⟩ v) := by
  rw [Sort.setCell_eq]
  unfold Sort.mapBlock
  refine ⟨rfl, rfl, rfl, by simp, fun k _ hk => ?_⟩
  show (w.heap.modify b _)[k]? = _
  rw [Array.getElem?_modify, if_neg (fun e => hk e.symm)]

set_option maxRecDepth 100000 in
set_option maxHeartbeats 2000000 in
theorem reg11 {Q : Exit → Act → World → Prop} {lp nn S N n e0 m : Nat} {vcl vps : Value} {xs : List Value} (a : Act) (A : World) (hsz : a.tmps.size = 82) (h3 : a.tmps.getD 3 undef = .pointer (some ⟨S + 1, 0, none⟩)) (h6 : a.tmps.getD 6 undef = .int .u64 (m : Int))
    (hst : A.heap[S]? = some (.cells #[.int .i64 (n : Int), vcl, vps] 54 (0, 0))) (hbx : A.heap[S + 1]? = some (.cells #[.pointer (some ⟨S, 0, none⟩)] 25 (0, 0))) (ho : A.ownsRow e0 63 2 vcl N xs) (he : S + 2 ≤ e0) (heA : e0 ≤ A.heap.size) (hN : N ≤ 10000000)
    (hQ : ∀ c (a : Act) (d : Nat) v w, Q (.panic c) (a.put (some d) v) w → Q (.panic c) a w) (hQo : ¬ LetsOut Q)
    (h : ∀ a' A' v', Fr a a' → A'.heap[S]? = some (.cells #[.int .i64 (n : Int), v', vps] 54 (0, 0)) → A'.ownsRow e0 63 2 v' (N + 1) (xs ++ [.int .u64 (m : Int), .slice none 0 0]) → Chg (fun k => k = S ∨ some k = vcl.ownBlock) A A' → Q .normal a' A') :
    (Code.region 11 ops11 true).wpIn (Fence.wide.inRound lp) nn Try.prog Q a A := by
  have hblk := ho.lt
  have hS0 : some S ≠ vcl.ownBlock := fun e => by have := hblk S e.symm; omega
  have hS1 : some (S + 1) ≠ vcl.ownBlock := fun e => by have := hblk (S + 1) e.symm; omega
  have hlt : S + 1 < A.heap.size := by omega
  obtain ⟨v', w', hrun, ho', hch, _, g, cp, hv'⟩ := app_one (T := 51) (e := 63) (z0 := .int .u64 0) (z1 := .slice none 0 0) (by_ := 32) (by kernel_rfl) (by kernel_rfl) (by kernel_rfl) (by decide) 51 (w := A.drew) (c0 := .int .u64 (m : Int)) (c1 := .slice none 0 0) ho heA hN rfl rfl
  obtain ⟨i0, hi, hz0, hz1, _⟩ := info_parts2 (P := Try.prog) (e := 63) (z := .agg #[.int .u64 0, .slice none 0 0]) (s := 2) (b := 32) (by kernel_rfl)
  let T : World → Prop := fun w' => ∀ k, k < A.heap.size → some k ≠ vcl.ownBlock → w'.heap[k]? = A.heap[k]?
  have tS : ∀ w', T w' → w'.heap[S]? = some (.cells #[.int .i64 (n : Int), vcl, vps] 54 (0, 0)) := fun w' hw => (hw S (by omega) hS0).trans hst
  have tB : ∀ w', T w' → w'.heap[S + 1]? = some (.cells #[.pointer (some ⟨S, 0, none⟩)] 25 (0, 0)) := fun w' hw => (hw (S + 1) hlt hS1).trans hbx
  have hT0 : T A.drew := fun _ _ _ => rfl
  refine Rst.startR 11 T (by kernel_rfl) (by kernel_rfl) hQo ?_
  refine Rst.take hQ 0 _ 39 (.pointer (some ⟨S, 0, none⟩)) rfl (by kernel_rfl) rfl (by simp [Reg.inB]) rfl hT0 (fun w' hw => Reg.ld1 rfl h3 (cell_at (tB w' hw) rfl) (Try.isAgg25 _)) ?_
  refine Rst.take hQ 1 _ 40 (.pointer (some ⟨S, 0, none⟩)) rfl (by kernel_rfl) rfl (by simp [Reg.inB, hsz]) rfl hT0 (fun w' hw => Reg.ld1 rfl h3 (cell_at (tB w' hw) rfl) (Try.isAgg25 _)) ?_
  refine Rst.take hQ 2 _ 41 (.pointer (some ⟨S, 0, none⟩)) rfl (by kernel_rfl) rfl (by simp [Reg.inB, hsz]) rfl hT0 (fun w' hw => Reg.nc rfl rfl) ?_
  refine Rst.take hQ 3 _ 42 (.pointer (some ⟨S, 1, none⟩)) rfl (by kernel_rfl) rfl (by simp [Reg.inB, hsz]) rfl hT0 (fun w' hw => Reg.fa rfl rfl (fa54_1 _ _ _)) ?_
  refine Rst.take hQ 4 _ 43 vcl rfl (by kernel_rfl) rfl (by simp [Reg.inB, hsz]) rfl hT0 (fun w' hw => Reg.ld1 rfl rfl (cell_at (tS w' hw) rfl) (Try.isAgg51 _)) ?_
  refine Rst.take hQ 5 _ 44 (.int .u64 (m : Int)) rfl (by kernel_rfl) rfl (by simp [Reg.inB, hsz]) rfl hT0 (fun w' hw => Reg.mv rfl h6) ?_
  refine Rst.take hQ 6 _ 45 (.agg #[.int .u64 (m : Int), .slice none 0 0]) rfl (by kernel_rfl) rfl (by simp [Reg.inB, hsz]) rfl hT0 (fun w' hw => Reg.bd rfl (vs := #[(0, .int .u64 (m : Int))]) (by simp [Reg.ev, Reg.look]) (by kernel_rfl)) ?_
  refine Rst.only 7 _ 46 rfl (by kernel_rfl) rfl (by simp [Reg.inB, hsz]) rfl ⟨_, _, Reg.bs (vs := #[(0, .agg #[.int .u64 (m : Int), .slice none 0 0])]) (cs := #[.int .u64 (m : Int), .slice none 0 0]) i0 _ rfl (by simp [Reg.ev, Reg.look]) (by kernel_rfl) hi hz0 (by rw [hz1]; decide) (by rw [hz1]; decide) (by rw [hz1]; kernel_rfl), fun k hk _ => Below.heap_alloc _ _ _ hk, ?_⟩
  refine Rst.only 8 _ 47 rfl (by kernel_rfl) rfl (by simp [Reg.inB, hsz]) rfl ⟨v', w', Reg.app rfl rfl rfl hrun, fun k hk hn => hch.block k hk hn, ?_⟩
  have hT1 : T w' := fun k hk hn => hch.block k hk hn
  refine Rst.only 9 _ 48 rfl (by kernel_rfl) rfl (by simp [Reg.inB, hsz]) rfl ⟨.pointer (some ⟨S, 0, none⟩), w', Reg.nc rfl rfl, hT1, ?_⟩
  refine Rst.only 10 _ 49 rfl (by kernel_rfl) rfl (by simp [Reg.inB, hsz]) rfl ⟨.pointer (some ⟨S, 1, none⟩), w', Reg.fa rfl rfl (fa54_1 _ _ _), hT1, ?_⟩
  refine Rst.last _ rfl (by kernel_rfl) rfl (by simp [Reg.inB, hsz]) rfl ⟨w'.setCell ⟨S, 1, none⟩ v', Reg.st1 rfl rfl rfl (cell_at (tS w' hT1) rfl) (frozen_at (tS w' hT1)) (.inr ⟨_, _, _, hv'⟩) (Try.sizeOf51 _), ?_⟩
  refine Rst.done (by kernel_rfl) ?_
  refine h _ _ v' (fr_ov (by simp [Reg.inB, hsz]) (by kernel_rfl)) ?_ ?_ ?_
  · exact (set_at v' (tS w' hT1)).trans rfl
  · have hc := chg_set w' S 1 v'
    refine ho'.kept (w' := w'.setCell ⟨S, 1, none⟩ v') (row := some S) ⟨hc.os, hc.tape, hc.output, hc.size, fun k hk hn => hc.block k hk (fun e => hn (by rw [e]))⟩ (.inr fun e => ?_)
    have := ho'.lt S e
    omega
  · have hc := (show Chg (fun k => some k = vcl.ownBlock) A w' from ⟨hch.os, hch.tape, hch.output, hch.size, hch.block⟩).trans (chg_set w' S 1 v')
    exact hc.mono fun k _ hk => hk.symm

set_option maxRecDepth 100000 in
set_option maxHeartbeats 2000000 in
theorem reg13 {Q : Exit → Act → World → Prop} {lp nn S N n e0 k rb : Nat} {lo hi_ : Int} {vcl vps : Value} {xs : List Value} (a : Act) (A : World) (hsz : a.tmps.size = 82) (h3 : a.tmps.getD 3 undef = .pointer (some ⟨S + 1, 0, none⟩)) (h5 : a.tmps.getD 5 undef = .pointer (some ⟨rb, 0, none⟩)) (h7 : a.tmps.getD 7 undef = .int .i64 (k : Int))
    (hst : A.heap[S]? = some (.cells #[.int .i64 (n : Int), vcl, vps] 54 (0, 0))) (hbx : A.heap[S + 1]? = some (.cells #[.pointer (some ⟨S, 0, none⟩)] 25 (0, 0))) (hrb : A.heap[rb]? = some (.cells #[.int .i32 lo, .int .i32 hi_] 48 (0, 0))) (ho : A.ownsRow e0 65 2 vps N xs) (he : S + 2 ≤ e0) (heA : e0 ≤ A.heap.size) (hN : N ≤ 10000000)
    (hQ : ∀ c (a : Act) (d : Nat) v w, Q (.panic c) (a.put (some d) v) w → Q (.panic c) a w) (hQo : ¬ LetsOut Q)
    (h : ∀ a' A' v', Fr a a' → A'.heap[S]? = some (.cells #[.int .i64 (n : Int), vcl, v'] 54 (0, 0)) → A'.ownsRow e0 65 2 v' (N + 1) (xs ++ [.int .i32 lo, .int .i64 (k : Int)]) → Chg (fun k => k = S ∨ some k = vps.ownBlock) A A' → Q .normal a' A') :
    (Code.region 13 ops13 true).wpIn (Fence.wide.inRound lp) nn Try.prog Q a A := by
  have hblk := ho.lt
  have hS0 : some S ≠ vps.ownBlock := fun e => by have := hblk S e.symm; omega
  have hS1 : some (S + 1) ≠ vps.ownBlock := fun e => by have := hblk (S + 1) e.symm; omega
  have hlt : S + 1 < A.heap.size := by omega
  have hR : some rb ≠ vps.ownBlock := fun e => by
    obtain ⟨_, ⟨hv, _⟩ | ⟨g, cap, cur, rfl, _, hg, _⟩⟩ := ho
    · rw [hv] at e; cases e
    · cases e
      rw [hrb] at hg
      cases hg
  have hrl : rb < A.heap.size := (Array.getElem?_eq_some_iff.1 hrb).1
  obtain ⟨v', w', hrun, ho', hch, _, g, cp, hv'⟩ := app_one (T := 52) (e := 65) (z0 := .int .i32 0) (z1 := .int .i64 0) (by_ := 16) (by kernel_rfl) (by kernel_rfl) (by kernel_rfl) (by decide) 52 (w := A.drew) (c0 := .int .i32 lo) (c1 := .int .i64 (k : Int)) ho heA hN rfl rfl
  obtain ⟨i0, hi, hz0, hz1, _⟩ := info_parts2 (P := Try.prog) (e := 65) (z := .agg #[.int .i32 0, .int .i64 0]) (s := 2) (b := 16) (by kernel_rfl)
  let T : World → Prop := fun w' => ∀ k, k < A.heap.size → some k ≠ vps.ownBlock → w'.heap[k]? = A.heap[k]?
  have tS : ∀ w', T w' → w'.heap[S]? = some (.cells #[.int .i64 (n : Int), vcl, vps] 54 (0, 0)) := fun w' hw => (hw S (by omega) hS0).trans hst
  have tB : ∀ w', T w' → w'.heap[S + 1]? = some (.cells #[.pointer (some ⟨S, 0, none⟩)] 25 (0, 0)) := fun w' hw => (hw (S + 1) hlt hS1).trans hbx
  have tR : ∀ w', T w' → w'.heap[rb]? = some (.cells #[.int .i32 lo, .int .i32 hi_] 48 (0, 0)) := fun w' hw => (hw rb hrl hR).trans hrb
  have hT0 : T A.drew := fun _ _ _ => rfl
  refine Rst.startR 13 T (by kernel_rfl) (by kernel_rfl) hQo ?_
  refine Rst.take hQ 0 _ 68 (.pointer (some ⟨S, 0, none⟩)) rfl (by kernel_rfl) rfl (by simp [Reg.inB]) rfl hT0 (fun w' hw => Reg.ld1 rfl h3 (cell_at (tB w' hw) rfl) (Try.isAgg25 _)) ?_
  refine Rst.take hQ 1 _ 69 (.pointer (some ⟨S, 0, none⟩)) rfl (by kernel_rfl) rfl (by simp [Reg.inB, hsz]) rfl hT0 (fun w' hw => Reg.ld1 rfl h3 (cell_at (tB w' hw) rfl) (Try.isAgg25 _)) ?_
  refine Rst.take hQ 2 _ 70 (.pointer (some ⟨S, 0, none⟩)) rfl (by kernel_rfl) rfl (by simp [Reg.inB, hsz]) rfl hT0 (fun w' hw => Reg.nc rfl rfl) ?_
  refine Rst.take hQ 3 _ 71 (.pointer (some ⟨S, 2, none⟩)) rfl (by kernel_rfl) rfl (by simp [Reg.inB, hsz]) rfl hT0 (fun w' hw => Reg.fa rfl rfl (fa54_2 _ _ _)) ?_
  refine Rst.take hQ 4 _ 72 vps rfl (by kernel_rfl) rfl (by simp [Reg.inB, hsz]) rfl hT0 (fun w' hw => Reg.ld1 rfl rfl (cell_at (tS w' hw) rfl) (Try.isAgg52 _)) ?_
  refine Rst.take hQ 5 _ 73 (.pointer (some ⟨rb, 0, none⟩)) rfl (by kernel_rfl) rfl (by simp [Reg.inB, hsz]) rfl hT0 (fun w' hw => Reg.fa rfl h5 (fa48_0 _ _ _)) ?_
  refine Rst.take hQ 6 _ 74 (.int .i32 lo) rfl (by kernel_rfl) rfl (by simp [Reg.inB, hsz]) rfl hT0 (fun w' hw => Reg.ld1 rfl rfl (cell_at (tR w' hw) rfl) (Try.isAgg21 _)) ?_
  refine Rst.take hQ 7 _ 75 (.int .i64 (k : Int)) rfl (by kernel_rfl) rfl (by simp [Reg.inB, hsz]) rfl hT0 (fun w' hw => Reg.mv rfl h7) ?_
  refine Rst.take hQ 8 _ 76 (.agg #[.int .i32 lo, .int .i64 (k : Int)]) rfl (by kernel_rfl) rfl (by simp [Reg.inB, hsz]) rfl hT0 (fun w' hw => Reg.bd rfl (vs := #[(0, .int .i32 lo), (1, .int .i64 (k : Int))]) (by simp only [List.map_toArray, List.map_cons, List.map_nil]; rfl) (by kernel_rfl)) ?_
  refine Rst.only 9 _ 77 rfl (by kernel_rfl) rfl (by simp [Reg.inB, hsz]) rfl ⟨_, _, Reg.bs (vs := #[(0, .agg #[.int .i32 lo, .int .i64 (k : Int)])]) (cs := #[.int .i32 lo, .int .i64 (k : Int)]) i0 _ rfl (by simp [Reg.ev, Reg.look]) (by kernel_rfl) hi hz0 (by rw [hz1]; decide) (by rw [hz1]; decide) (by rw [hz1]; kernel_rfl), fun k hk _ => Below.heap_alloc _ _ _ hk, ?_⟩
  refine Rst.only 10 _ 78 rfl (by kernel_rfl) rfl (by simp [Reg.inB, hsz]) rfl ⟨v', w', Reg.app rfl rfl rfl hrun, fun k hk hn => hch.block k hk hn, ?_⟩
  have hT1 : T w' := fun k hk hn => hch.block k hk hn
  refine Rst.only 11 _ 79 rfl (by kernel_rfl) rfl (by simp [Reg.inB, hsz]) rfl ⟨.pointer (some ⟨S, 0, none⟩), w', Reg.nc rfl rfl, hT1, ?_⟩
  refine Rst.only 12 _ 80 rfl (by kernel_rfl) rfl (by simp [Reg.inB, hsz]) rfl ⟨.pointer (some ⟨S, 2, none⟩), w', Reg.fa rfl rfl (fa54_2 _ _ _), hT1, ?_⟩
  refine Rst.last _ rfl (by kernel_rfl) rfl (by simp [Reg.inB, hsz]) rfl ⟨w'.setCell ⟨S, 2, none⟩ v', Reg.st1 rfl rfl rfl (cell_at (tS w' hT1) rfl) (frozen_at (tS w' hT1)) (.inr ⟨_, _, _, hv'⟩) (Try.sizeOf52 _), ?_⟩
  refine Rst.done (by kernel_rfl) ?_
  refine h _ _ v' (fr_ov (by simp [Reg.inB, hsz]) (by kernel_rfl)) ?_ ?_ ?_
  · exact (set_at v' (tS w' hT1)).trans rfl
  · have hc := chg_set w' S 2 v'
    refine ho'.kept (w' := w'.setCell ⟨S, 2, none⟩ v') (row := some S) ⟨hc.os, hc.tape, hc.output, hc.size, fun k hk hn => hc.block k hk (fun e => hn (by rw [e]))⟩ (.inr fun e => ?_)
    have := ho'.lt S e
    omega
  · have hc := (show Chg (fun k => some k = vps.ownBlock) A w' from ⟨hch.os, hch.tape, hch.output, hch.size, hch.block⟩).trans (chg_set w' S 2 v')
    exact hc.mono fun k _ hk => hk.symm

set_option maxRecDepth 100000 in
set_option maxHeartbeats 2000000 in
theorem reg12 {Q : Exit → Act → World → Prop} {lp nn S N M n e0 k rb : Nat} {lo hi_ : Int} {vcl vps v : Value} {xs ys : List Value} (a : Act) (A : World) (hsz : a.tmps.size = 82) (h3 : a.tmps.getD 3 undef = .pointer (some ⟨S + 1, 0, none⟩)) (h5 : a.tmps.getD 5 undef = .pointer (some ⟨rb, 0, none⟩)) (h7 : a.tmps.getD 7 undef = .int .i64 (k : Int))
    (hst : A.heap[S]? = some (.cells #[.int .i64 (n : Int), vcl, vps] 54 (0, 0))) (hbx : A.heap[S + 1]? = some (.cells #[.pointer (some ⟨S, 0, none⟩)] 25 (0, 0))) (hrb : A.heap[rb]? = some (.cells #[.int .i32 lo, .int .i32 hi_] 48 (0, 0))) (hR : some rb ≠ v.ownBlock) (hoc : A.ownsRow e0 63 2 vcl N xs) (hk : k < N) (hx : xs[k * 2 + 1]? = some v) (ho : A.ownsRow e0 48 2 v M ys) (he : S + 2 ≤ e0) (heA : e0 ≤ A.heap.size) (hM : M ≤ 10000000)
    (hQ : ∀ c (a : Act) (d : Nat) v w, Q (.panic c) (a.put (some d) v) w → Q (.panic c) a w) (hQo : ¬ LetsOut Q)
    (h : ∀ a' A' v', Fr a a' → A'.ownsRow e0 63 2 vcl N (xs.set (k * 2 + 1) v') → A'.ownsRow e0 48 2 v' (M + 1) (ys ++ [.int .i32 lo, .int .i32 hi_]) → (v'.ownBlock = v.ownBlock ∨ ∃ g, v'.ownBlock = some g ∧ A.heap.size ≤ g) → Chg (fun k => some k = vcl.ownBlock ∨ some k = v.ownBlock) A A' → Q .normal a' A') :
    (Code.region 12 ops12 true).wpIn (Fence.wide.inRound lp) nn Try.prog Q a A := by
  have hblk := ho.lt
  have hS0 : some S ≠ v.ownBlock := fun e => by have := hblk S e.symm; omega
  have hS1 : some (S + 1) ≠ v.ownBlock := fun e => by have := hblk (S + 1) e.symm; omega
  have hlt : S + 1 < A.heap.size := by omega
  have hrl : rb < A.heap.size := (Array.getElem?_eq_some_iff.1 hrb).1
  obtain ⟨hxl, ⟨_, hN0⟩ | ⟨g, cap, cur, rfl, hge, hg, hNc, hcm, hcs, htk⟩⟩ := hoc
  · omega
  have hgl : g < A.heap.size := (Array.getElem?_eq_some_iff.1 hg).1
  have hG : some g ≠ v.ownBlock := fun e => by
    obtain ⟨_, ⟨hv, _⟩ | ⟨g', cap, cur, rfl, _, hg', _⟩⟩ := ho
    · rw [hv] at e; cases e
    · cases e
      rw [hg] at hg'
      cases hg'
  have hcur : cur[0 + k * 2 + 1]? = some v := by
    rw [← htk, List.getElem?_take] at hx
    split at hx
    · rw [Nat.zero_add, ← Array.getElem?_toList]; exact hx
    · cases hx
  obtain ⟨v', w', hrun, ho', hch, hat, g', cp, hv'⟩ := app_one (T := 35) (e := 48) (z0 := .int .i32 0) (z1 := .int .i32 0) (by_ := 8) (by kernel_rfl) (by kernel_rfl) (by kernel_rfl) (by decide) 35 (w := A.drew) (c0 := .int .i32 lo) (c1 := .int .i32 hi_) ho heA hM rfl rfl
  obtain ⟨i0, hi, hz0, hz1, _⟩ := info_parts2 (P := Try.prog) (e := 48) (z := .agg #[.int .i32 0, .int .i32 0]) (s := 2) (b := 8) (by kernel_rfl)
  let T : World → Prop := fun w' => ∀ k, k < A.heap.size → some k ≠ v.ownBlock → w'.heap[k]? = A.heap[k]?
  have tS : ∀ w', T w' → w'.heap[S]? = some (.cells #[.int .i64 (n : Int), .slice (some ⟨g, 0, none⟩) N cap, vps] 54 (0, 0)) := fun w' hw => (hw S (by omega) hS0).trans hst
  have tB : ∀ w', T w' → w'.heap[S + 1]? = some (.cells #[.pointer (some ⟨S, 0, none⟩)] 25 (0, 0)) := fun w' hw => (hw (S + 1) hlt hS1).trans hbx
  have tR : ∀ w', T w' → w'.heap[rb]? = some (.cells #[.int .i32 lo, .int .i32 hi_] 48 (0, 0)) := fun w' hw => (hw rb hrl hR).trans hrb
  have tG : ∀ w', T w' → w'.heap[g]? = some (.cells cur 63 (0, 0)) := fun w' hw => (hw g hgl hG).trans hg
  have hT0 : T A.drew := fun _ _ _ => rfl
  have hix : ∀ w', (sizeOf (Try.prog.elem 51)).run Try.prog w' = .ok 2 w' := fun w' => Try.sizeOf63 w'
  refine Rst.startR 18 T (by kernel_rfl) (by kernel_rfl) hQo ?_
  refine Rst.take hQ 0 _ 50 (.pointer (some ⟨S, 0, none⟩)) rfl (by kernel_rfl) rfl (by simp [Reg.inB]) rfl hT0 (fun w' hw => Reg.ld1 rfl h3 (cell_at (tB w' hw) rfl) (Try.isAgg25 _)) ?_
  refine Rst.take hQ 1 _ 51 (.pointer (some ⟨S, 0, none⟩)) rfl (by kernel_rfl) rfl (by simp [Reg.inB, hsz]) rfl hT0 (fun w' hw => Reg.nc rfl rfl) ?_
  refine Rst.take hQ 2 _ 52 (.pointer (some ⟨S, 1, none⟩)) rfl (by kernel_rfl) rfl (by simp [Reg.inB, hsz]) rfl hT0 (fun w' hw => Reg.fa rfl rfl (fa54_1 _ _ _)) ?_
  refine Rst.take hQ 3 _ 53 (.slice (some ⟨g, 0, none⟩) N cap) rfl (by kernel_rfl) rfl (by simp [Reg.inB, hsz]) rfl hT0 (fun w' hw => Reg.ld1 rfl rfl (cell_at (tS w' hw) rfl) (Try.isAgg51 _)) ?_
  refine Rst.take hQ 4 _ 54 (.int .i64 (k : Int)) rfl (by kernel_rfl) rfl (by simp [Reg.inB, hsz]) rfl hT0 (fun w' hw => Reg.mv rfl h7) ?_
  refine Rst.take hQ 5 _ 55 (.pointer (some ⟨S, 0, none⟩)) rfl (by kernel_rfl) rfl (by simp [Reg.inB, hsz]) rfl hT0 (fun w' hw => Reg.ld1 rfl h3 (cell_at (tB w' hw) rfl) (Try.isAgg25 _)) ?_
  refine Rst.take hQ 6 _ 56 (.pointer (some ⟨S, 0, none⟩)) rfl (by kernel_rfl) rfl (by simp [Reg.inB, hsz]) rfl hT0 (fun w' hw => Reg.nc rfl rfl) ?_
  refine Rst.take hQ 7 _ 57 (.pointer (some ⟨S, 1, none⟩)) rfl (by kernel_rfl) rfl (by simp [Reg.inB, hsz]) rfl hT0 (fun w' hw => Reg.fa rfl rfl (fa54_1 _ _ _)) ?_
  refine Rst.take hQ 8 _ 58 (.slice (some ⟨g, 0, none⟩) N cap) rfl (by kernel_rfl) rfl (by simp [Reg.inB, hsz]) rfl hT0 (fun w' hw => Reg.ld1 rfl rfl (cell_at (tS w' hw) rfl) (Try.isAgg51 _)) ?_
  refine Rst.take hQ 9 _ 59 (.int .i64 (k : Int)) rfl (by kernel_rfl) rfl (by simp [Reg.inB, hsz]) rfl hT0 (fun w' hw => Reg.mv rfl h7) ?_
  refine Rst.take hQ 10 _ 60 (.pointer (some ⟨g, 0 + k * 2, none⟩)) rfl (by kernel_rfl) rfl (by simp [Reg.inB, hsz]) rfl hT0 (fun w' hw => Reg.ix rfl rfl rfl hk (by kernel_rfl) (hix w')) ?_
  refine Rst.take hQ 11 _ 61 (.pointer (some ⟨g, 0 + k * 2 + 1, none⟩)) rfl (by kernel_rfl) rfl (by simp [Reg.inB, hsz]) rfl hT0 (fun w' hw => Reg.fa rfl rfl (fa63_1 _ _ _)) ?_
  refine Rst.take hQ 12 _ 62 v rfl (by kernel_rfl) rfl (by simp [Reg.inB, hsz]) rfl hT0 (fun w' hw => Reg.ld1 rfl rfl (cell_at (tG w' hw) hcur) (Try.isAgg35 _)) ?_
  refine Rst.take hQ 13 _ 63 (.agg #[.int .i32 lo, .int .i32 hi_]) rfl (by kernel_rfl) rfl (by simp [Reg.inB, hsz]) rfl hT0 (fun w' hw => Reg.ld rfl h5 (range_block (tR w' hw)) Try.underlying48 rfl (by kernel_rfl)) ?_
  refine Rst.only 14 _ 64 rfl (by kernel_rfl) rfl (by simp [Reg.inB, hsz]) rfl ⟨_, _, Reg.bs (vs := #[(0, .agg #[.int .i32 lo, .int .i32 hi_])]) (cs := #[.int .i32 lo, .int .i32 hi_]) i0 _ rfl (by simp [Reg.ev, Reg.look]) (by kernel_rfl) hi hz0 (by rw [hz1]; decide) (by rw [hz1]; decide) (by rw [hz1]; kernel_rfl), fun k hk _ => Below.heap_alloc _ _ _ hk, ?_⟩
  refine Rst.only 15 _ 65 rfl (by kernel_rfl) rfl (by simp [Reg.inB, hsz]) rfl ⟨v', w', Reg.app rfl rfl rfl hrun, fun k hk hn => hch.block k hk hn, ?_⟩
  have hT1 : T w' := fun k hk hn => hch.block k hk hn
  refine Rst.only 16 _ 66 rfl (by kernel_rfl) rfl (by simp [Reg.inB, hsz]) rfl ⟨.pointer (some ⟨g, 0 + k * 2, none⟩), w', Reg.ix rfl rfl rfl hk (by kernel_rfl) (hix w'), hT1, ?_⟩
  refine Rst.only 17 _ 67 rfl (by kernel_rfl) rfl (by simp [Reg.inB, hsz]) rfl ⟨.pointer (some ⟨g, 0 + k * 2 + 1, none⟩), w', Reg.fa rfl rfl (fa63_1 _ _ _), hT1, ?_⟩
  refine Rst.last _ rfl (by kernel_rfl) rfl (by simp [Reg.inB, hsz]) rfl ⟨w'.setCell ⟨g, 0 + k * 2 + 1, none⟩ v', Reg.st1 rfl rfl rfl (cell_at (tG w' hT1) hcur) (frozen_at (tG w' hT1)) (.inr ⟨_, _, _, hv'⟩) (Try.sizeOf35 _), ?_⟩
  refine Rst.done (by kernel_rfl) ?_
  have hc := chg_set w' g (0 + k * 2 + 1) v'
  refine h _ _ v' (fr_ov (by simp [Reg.inB, hsz]) (by kernel_rfl)) ?_ ?_ hat ?_
  · refine ⟨by simpa using hxl, .inr ⟨g, cap, cur.setIfInBounds (0 + k * 2 + 1) v', rfl, hge, set_at v' (tG w' hT1), hNc, hcm, by simpa using hcs, ?_⟩⟩
    rw [Array.toList_setIfInBounds, List.take_set, htk, Nat.zero_add]
  · refine ho'.kept (w' := w'.setCell ⟨g, 0 + k * 2 + 1, none⟩ v') (row := some g) ⟨hc.os, hc.tape, hc.output, hc.size, fun k hk hn => hc.block k hk (fun e => hn (by rw [e]))⟩ (.inr fun e => ?_)
    obtain ⟨_, ⟨hv, _⟩ | ⟨g2, _, _, hv2, _, hg2, _⟩⟩ := ho'
    · rw [hv] at e; cases e
    · rw [hv2] at e
      cases e
      rw [tG w' hT1] at hg2
      cases hg2
  · have hc2 := (show Chg (fun k => some k = v.ownBlock) A w' from ⟨hch.os, hch.tape, hch.output, hch.size, hch.block⟩).trans hc
    exact hc2.mono fun k _ hk => hk.symm.imp (fun e => by rw [e]; rfl) id
end Go.Proofs.Ytbkcbclloemajaa
