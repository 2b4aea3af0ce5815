/- Joined: URegv UFac UEndsw. -/
import Derived.Test.YtgngaldoemopjaaGreatDoorFURegu
import Derived.Test.YtgngaldoemopjaaGreatDoorFSqr
import Derived.Test.YtgngaldoemopjaaGreatDoorFSbh
namespace Go.Proofs.YtgngaldoemopjaaGreatDoor.U
open Go.RowKit Go.Shelf
theorem chg_set (w : World) (b j : Nat) (v : Value) : Chg (fun k => k = b) w (w.setCell ⟨b, j, none⟩ v) := by
 rw [Sort.setCell_eq]
 unfold Sort.mapBlock
 refine ⟨rfl, rfl, rfl, by simp, fun k _ hk => ?_⟩
 show (w.heap.modify b _)[k]? = _
 rw [Array.getElem?_modify, if_neg (fun e => hk e.symm)]
set_option maxRecDepth 100000 in
set_option maxHeartbeats 2000000 in
theorem reg11 {Q : Exit → Act → World → Prop} {lp nn S N n e0 m : Nat} {vcl vps : Value} {xs : List Value} (a : Act) (A : World) (hsz : a.tmps.size = 82) (h3 : a.tmps.getD 3 undef = .pointer (some ⟨S + 1, 0, none⟩)) (h6 : a.tmps.getD 6 undef = .int .u64 (m : Int))
   (hst : A.heap[S]? = some (.cells #[.int .i64 (n : Int), vcl, vps] 69 (0, 0))) (hbx : A.heap[S + 1]? = some (.cells #[.pointer (some ⟨S, 0, none⟩)] 91 (0, 0))) (ho : A.ownsRow e0 143 2 vcl N xs) (he : S + 2 ≤ e0) (heA : e0 ≤ A.heap.size) (hN : N ≤ 10000000)
   (hQ : ∀ c (a : Act) (d : Nat) v w, Q (.panic c) (a.put (some d) v) w → Q (.panic c) a w) (hQo : ¬ LetsOut Q)
   (h : ∀ a' A' v', Fr a a' → A'.heap[S]? = some (.cells #[.int .i64 (n : Int), v', vps] 69 (0, 0)) → A'.ownsRow e0 143 2 v' (N + 1) (xs ++ [.int .u64 (m : Int), .slice none 0 0]) → Chg (fun k => k = S ∨ some k = vcl.ownBlock) A A' → Q .normal a' A') :
   (Code.region 11 ops11 true).wpIn (Fence.wide.inRound lp) nn Tryz.prog Q a A := by
 have hblk := ho.lt
 have hS0 : some S ≠ vcl.ownBlock := fun e => by have := hblk S e.symm; omega
 have hS1 : some (S + 1) ≠ vcl.ownBlock := fun e => by have := hblk (S + 1) e.symm; omega
 have hlt : S + 1 < A.heap.size := by omega
 obtain ⟨v', w', hrun, ho', hch, _, g, cp, hv'⟩ := app_one (T := 66) (e := 143) (z0 := .int .u64 0) (z1 := .slice none 0 0) (by_ := 32) (by kernel_rfl) (by kernel_rfl) (by kernel_rfl) (by decide) 66 (w := A.drew) (c0 := .int .u64 (m : Int)) (c1 := .slice none 0 0) ho heA hN rfl rfl
 obtain ⟨i0, hi, hz0, hz1, _⟩ := info_parts2 (P := Tryz.prog) (e := 143) (z := .agg #[.int .u64 0, .slice none 0 0]) (s := 2) (b := 32) (by kernel_rfl)
 let T : World → Prop := fun w' => ∀ k, k < A.heap.size → some k ≠ vcl.ownBlock → w'.heap[k]? = A.heap[k]?
 have tS : ∀ w', T w' → w'.heap[S]? = some (.cells #[.int .i64 (n : Int), vcl, vps] 69 (0, 0)) := fun w' hw => (hw S (by omega) hS0).trans hst
 have tB : ∀ w', T w' → w'.heap[S + 1]? = some (.cells #[.pointer (some ⟨S, 0, none⟩)] 91 (0, 0)) := fun w' hw => (hw (S + 1) hlt hS1).trans hbx
 have hT0 : T A.drew := fun _ _ _ => rfl
 refine Rst.startR 11 T (by kernel_rfl) (by kernel_rfl) hQo ?_
 refine Rst.take hQ 0 _ 39 (.pointer (some ⟨S, 0, none⟩)) rfl (by kernel_rfl) rfl (by simp [Reg.inB]) rfl hT0 (fun w' hw => Reg.ld1 rfl h3 (cell_at (tB w' hw) rfl) (Tryz.isAgg91 _)) ?_
 refine Rst.take hQ 1 _ 40 (.pointer (some ⟨S, 0, none⟩)) rfl (by kernel_rfl) rfl (by simp [Reg.inB, hsz]) rfl hT0 (fun w' hw => Reg.ld1 rfl h3 (cell_at (tB w' hw) rfl) (Tryz.isAgg91 _)) ?_
 refine Rst.take hQ 2 _ 41 (.pointer (some ⟨S, 0, none⟩)) rfl (by kernel_rfl) rfl (by simp [Reg.inB, hsz]) rfl hT0 (fun w' hw => Reg.nc rfl rfl) ?_
 refine Rst.take hQ 3 _ 42 (.pointer (some ⟨S, 1, none⟩)) rfl (by kernel_rfl) rfl (by simp [Reg.inB, hsz]) rfl hT0 (fun w' hw => Reg.fa rfl rfl (fa54_1 _ _ _)) ?_
 refine Rst.take hQ 4 _ 43 vcl rfl (by kernel_rfl) rfl (by simp [Reg.inB, hsz]) rfl hT0 (fun w' hw => Reg.ld1 rfl rfl (cell_at (tS w' hw) rfl) (Tryz.isAgg66 _)) ?_
 refine Rst.take hQ 5 _ 44 (.int .u64 (m : Int)) rfl (by kernel_rfl) rfl (by simp [Reg.inB, hsz]) rfl hT0 (fun w' hw => Reg.mv rfl h6) ?_
 refine Rst.take hQ 6 _ 45 (.agg #[.int .u64 (m : Int), .slice none 0 0]) rfl (by kernel_rfl) rfl (by simp [Reg.inB, hsz]) rfl hT0 (fun w' hw => Reg.bd rfl (vs := #[(0, .int .u64 (m : Int))]) (by simp [Reg.ev, Reg.look]) (by kernel_rfl)) ?_
 refine Rst.only 7 _ 46 rfl (by kernel_rfl) rfl (by simp [Reg.inB, hsz]) rfl ⟨_, _, Reg.bs (vs := #[(0, .agg #[.int .u64 (m : Int), .slice none 0 0])]) (cs := #[.int .u64 (m : Int), .slice none 0 0]) i0 _ rfl (by simp [Reg.ev, Reg.look]) (by kernel_rfl) hi hz0 (by rw [hz1]; decide) (by rw [hz1]; decide) (by rw [hz1]; kernel_rfl), fun k hk _ => Below.heap_alloc _ _ _ hk, ?_⟩
 refine Rst.only 8 _ 47 rfl (by kernel_rfl) rfl (by simp [Reg.inB, hsz]) rfl ⟨v', w', Reg.app rfl rfl rfl hrun, fun k hk hn => hch.block k hk hn, ?_⟩
 have hT1 : T w' := fun k hk hn => hch.block k hk hn
 refine Rst.only 9 _ 48 rfl (by kernel_rfl) rfl (by simp [Reg.inB, hsz]) rfl ⟨.pointer (some ⟨S, 0, none⟩), w', Reg.nc rfl rfl, hT1, ?_⟩
 refine Rst.only 10 _ 49 rfl (by kernel_rfl) rfl (by simp [Reg.inB, hsz]) rfl ⟨.pointer (some ⟨S, 1, none⟩), w', Reg.fa rfl rfl (fa54_1 _ _ _), hT1, ?_⟩
 refine Rst.last _ rfl (by kernel_rfl) rfl (by simp [Reg.inB, hsz]) rfl ⟨w'.setCell ⟨S, 1, none⟩ v', Reg.st1 rfl rfl rfl (cell_at (tS w' hT1) rfl) (frozen_at (tS w' hT1)) (.inr ⟨_, _, _, hv'⟩) (Tryz.sizeOf66 _), ?_⟩
 refine Rst.done (by kernel_rfl) ?_
 refine h _ _ v' (fr_ov (by simp [Reg.inB, hsz]) (by kernel_rfl)) ?_ ?_ ?_
 · exact (set_at v' (tS w' hT1)).trans rfl
 · have hc := chg_set w' S 1 v'
   refine ho'.kept (w' := w'.setCell ⟨S, 1, none⟩ v') (row := some S) ⟨hc.os, hc.tape, hc.output, hc.size, fun k hk hn => hc.block k hk (fun e => hn (by rw [e]))⟩ (.inr fun e => ?_)
   have := ho'.lt S e
   omega
 · have hc := (show Chg (fun k => some k = vcl.ownBlock) A w' from ⟨hch.os, hch.tape, hch.output, hch.size, hch.block⟩).trans (chg_set w' S 1 v')
   exact hc.mono fun k _ hk => hk.symm
set_option maxRecDepth 100000 in
set_option maxHeartbeats 2000000 in
theorem reg13 {Q : Exit → Act → World → Prop} {lp nn S N n e0 k rb : Nat} {lo hi_ : Int} {vcl vps : Value} {xs : List Value} (a : Act) (A : World) (hsz : a.tmps.size = 82) (h3 : a.tmps.getD 3 undef = .pointer (some ⟨S + 1, 0, none⟩)) (h5 : a.tmps.getD 5 undef = .pointer (some ⟨rb, 0, none⟩)) (h7 : a.tmps.getD 7 undef = .int .i64 (k : Int))
   (hst : A.heap[S]? = some (.cells #[.int .i64 (n : Int), vcl, vps] 69 (0, 0))) (hbx : A.heap[S + 1]? = some (.cells #[.pointer (some ⟨S, 0, none⟩)] 91 (0, 0))) (hrb : A.heap[rb]? = some (.cells #[.int .i32 lo, .int .i32 hi_] 140 (0, 0))) (ho : A.ownsRow e0 123 2 vps N xs) (he : S + 2 ≤ e0) (heA : e0 ≤ A.heap.size) (hN : N ≤ 10000000)
   (hQ : ∀ c (a : Act) (d : Nat) v w, Q (.panic c) (a.put (some d) v) w → Q (.panic c) a w) (hQo : ¬ LetsOut Q)
   (h : ∀ a' A' v', Fr a a' → A'.heap[S]? = some (.cells #[.int .i64 (n : Int), vcl, v'] 69 (0, 0)) → A'.ownsRow e0 123 2 v' (N + 1) (xs ++ [.int .i32 lo, .int .i64 (k : Int)]) → Chg (fun k => k = S ∨ some k = vps.ownBlock) A A' → Q .normal a' A') :
   (Code.region 13 ops13 true).wpIn (Fence.wide.inRound lp) nn Tryz.prog Q a A := by
 have hblk := ho.lt
 have hS0 : some S ≠ vps.ownBlock := fun e => by have := hblk S e.symm; omega
 have hS1 : some (S + 1) ≠ vps.ownBlock := fun e => by have := hblk (S + 1) e.symm; omega
 have hlt : S + 1 < A.heap.size := by omega
 have hR : some rb ≠ vps.ownBlock := fun e => by
   obtain ⟨_, ⟨hv, _⟩ | ⟨g, cap, cur, rfl, _, hg, _⟩⟩ := ho
   · rw [hv] at e; cases e
   · cases e
     rw [hrb] at hg
     cases hg
 have hrl : rb < A.heap.size := (Array.getElem?_eq_some_iff.1 hrb).1
 obtain ⟨v', w', hrun, ho', hch, _, g, cp, hv'⟩ := app_one (T := 67) (e := 123) (z0 := .int .i32 0) (z1 := .int .i64 0) (by_ := 16) (by kernel_rfl) (by kernel_rfl) (by kernel_rfl) (by decide) 67 (w := A.drew) (c0 := .int .i32 lo) (c1 := .int .i64 (k : Int)) ho heA hN rfl rfl
 obtain ⟨i0, hi, hz0, hz1, _⟩ := info_parts2 (P := Tryz.prog) (e := 123) (z := .agg #[.int .i32 0, .int .i64 0]) (s := 2) (b := 16) (by kernel_rfl)
 let T : World → Prop := fun w' => ∀ k, k < A.heap.size → some k ≠ vps.ownBlock → w'.heap[k]? = A.heap[k]?
 have tS : ∀ w', T w' → w'.heap[S]? = some (.cells #[.int .i64 (n : Int), vcl, vps] 69 (0, 0)) := fun w' hw => (hw S (by omega) hS0).trans hst
 have tB : ∀ w', T w' → w'.heap[S + 1]? = some (.cells #[.pointer (some ⟨S, 0, none⟩)] 91 (0, 0)) := fun w' hw => (hw (S + 1) hlt hS1).trans hbx
 have tR : ∀ w', T w' → w'.heap[rb]? = some (.cells #[.int .i32 lo, .int .i32 hi_] 140 (0, 0)) := fun w' hw => (hw rb hrl hR).trans hrb
 have hT0 : T A.drew := fun _ _ _ => rfl
 refine Rst.startR 13 T (by kernel_rfl) (by kernel_rfl) hQo ?_
 refine Rst.take hQ 0 _ 68 (.pointer (some ⟨S, 0, none⟩)) rfl (by kernel_rfl) rfl (by simp [Reg.inB]) rfl hT0 (fun w' hw => Reg.ld1 rfl h3 (cell_at (tB w' hw) rfl) (Tryz.isAgg91 _)) ?_
 refine Rst.take hQ 1 _ 69 (.pointer (some ⟨S, 0, none⟩)) rfl (by kernel_rfl) rfl (by simp [Reg.inB, hsz]) rfl hT0 (fun w' hw => Reg.ld1 rfl h3 (cell_at (tB w' hw) rfl) (Tryz.isAgg91 _)) ?_
 refine Rst.take hQ 2 _ 70 (.pointer (some ⟨S, 0, none⟩)) rfl (by kernel_rfl) rfl (by simp [Reg.inB, hsz]) rfl hT0 (fun w' hw => Reg.nc rfl rfl) ?_
 refine Rst.take hQ 3 _ 71 (.pointer (some ⟨S, 2, none⟩)) rfl (by kernel_rfl) rfl (by simp [Reg.inB, hsz]) rfl hT0 (fun w' hw => Reg.fa rfl rfl (fa54_2 _ _ _)) ?_
 refine Rst.take hQ 4 _ 72 vps rfl (by kernel_rfl) rfl (by simp [Reg.inB, hsz]) rfl hT0 (fun w' hw => Reg.ld1 rfl rfl (cell_at (tS w' hw) rfl) (Tryz.isAgg67 _)) ?_
 refine Rst.take hQ 5 _ 73 (.pointer (some ⟨rb, 0, none⟩)) rfl (by kernel_rfl) rfl (by simp [Reg.inB, hsz]) rfl hT0 (fun w' hw => Reg.fa rfl h5 (fa48_0 _ _ _)) ?_
 refine Rst.take hQ 6 _ 74 (.int .i32 lo) rfl (by kernel_rfl) rfl (by simp [Reg.inB, hsz]) rfl hT0 (fun w' hw => Reg.ld1 rfl rfl (cell_at (tR w' hw) rfl) (Tryz.isAgg21 _)) ?_
 refine Rst.take hQ 7 _ 75 (.int .i64 (k : Int)) rfl (by kernel_rfl) rfl (by simp [Reg.inB, hsz]) rfl hT0 (fun w' hw => Reg.mv rfl h7) ?_
 refine Rst.take hQ 8 _ 76 (.agg #[.int .i32 lo, .int .i64 (k : Int)]) rfl (by kernel_rfl) rfl (by simp [Reg.inB, hsz]) rfl hT0 (fun w' hw => Reg.bd rfl (vs := #[(0, .int .i32 lo), (1, .int .i64 (k : Int))]) (by simp only [List.map_toArray, List.map_cons, List.map_nil]; rfl) (by kernel_rfl)) ?_
 refine Rst.only 9 _ 77 rfl (by kernel_rfl) rfl (by simp [Reg.inB, hsz]) rfl ⟨_, _, Reg.bs (vs := #[(0, .agg #[.int .i32 lo, .int .i64 (k : Int)])]) (cs := #[.int .i32 lo, .int .i64 (k : Int)]) i0 _ rfl (by simp [Reg.ev, Reg.look]) (by kernel_rfl) hi hz0 (by rw [hz1]; decide) (by rw [hz1]; decide) (by rw [hz1]; kernel_rfl), fun k hk _ => Below.heap_alloc _ _ _ hk, ?_⟩
 refine Rst.only 10 _ 78 rfl (by kernel_rfl) rfl (by simp [Reg.inB, hsz]) rfl ⟨v', w', Reg.app rfl rfl rfl hrun, fun k hk hn => hch.block k hk hn, ?_⟩
 have hT1 : T w' := fun k hk hn => hch.block k hk hn
 refine Rst.only 11 _ 79 rfl (by kernel_rfl) rfl (by simp [Reg.inB, hsz]) rfl ⟨.pointer (some ⟨S, 0, none⟩), w', Reg.nc rfl rfl, hT1, ?_⟩
 refine Rst.only 12 _ 80 rfl (by kernel_rfl) rfl (by simp [Reg.inB, hsz]) rfl ⟨.pointer (some ⟨S, 2, none⟩), w', Reg.fa rfl rfl (fa54_2 _ _ _), hT1, ?_⟩
 refine Rst.last _ rfl (by kernel_rfl) rfl (by simp [Reg.inB, hsz]) rfl ⟨w'.setCell ⟨S, 2, none⟩ v', Reg.st1 rfl rfl rfl (cell_at (tS w' hT1) rfl) (frozen_at (tS w' hT1)) (.inr ⟨_, _, _, hv'⟩) (Tryz.sizeOf67 _), ?_⟩
 refine Rst.done (by kernel_rfl) ?_
 refine h _ _ v' (fr_ov (by simp [Reg.inB, hsz]) (by kernel_rfl)) ?_ ?_ ?_
 · exact (set_at v' (tS w' hT1)).trans rfl
 · have hc := chg_set w' S 2 v'
   refine ho'.kept (w' := w'.setCell ⟨S, 2, none⟩ v') (row := some S) ⟨hc.os, hc.tape, hc.output, hc.size, fun k hk hn => hc.block k hk (fun e => hn (by rw [e]))⟩ (.inr fun e => ?_)
   have := ho'.lt S e
   omega
 · have hc := (show Chg (fun k => some k = vps.ownBlock) A w' from ⟨hch.os, hch.tape, hch.output, hch.size, hch.block⟩).trans (chg_set w' S 2 v')
   exact hc.mono fun k _ hk => hk.symm
set_option maxRecDepth 100000 in
set_option maxHeartbeats 2000000 in
theorem reg12 {Q : Exit → Act → World → Prop} {lp nn S N M n e0 k rb : Nat} {lo hi_ : Int} {vcl vps v : Value} {xs ys : List Value} (a : Act) (A : World) (hsz : a.tmps.size = 82) (h3 : a.tmps.getD 3 undef = .pointer (some ⟨S + 1, 0, none⟩)) (h5 : a.tmps.getD 5 undef = .pointer (some ⟨rb, 0, none⟩)) (h7 : a.tmps.getD 7 undef = .int .i64 (k : Int))
   (hst : A.heap[S]? = some (.cells #[.int .i64 (n : Int), vcl, vps] 69 (0, 0))) (hbx : A.heap[S + 1]? = some (.cells #[.pointer (some ⟨S, 0, none⟩)] 91 (0, 0))) (hrb : A.heap[rb]? = some (.cells #[.int .i32 lo, .int .i32 hi_] 140 (0, 0))) (hR : some rb ≠ v.ownBlock) (hoc : A.ownsRow e0 143 2 vcl N xs) (hk : k < N) (hx : xs[k * 2 + 1]? = some v) (ho : A.ownsRow e0 140 2 v M ys) (he : S + 2 ≤ e0) (heA : e0 ≤ A.heap.size) (hM : M ≤ 10000000)
   (hQ : ∀ c (a : Act) (d : Nat) v w, Q (.panic c) (a.put (some d) v) w → Q (.panic c) a w) (hQo : ¬ LetsOut Q)
   (h : ∀ a' A' v', Fr a a' → A'.ownsRow e0 143 2 vcl N (xs.set (k * 2 + 1) v') → A'.ownsRow e0 140 2 v' (M + 1) (ys ++ [.int .i32 lo, .int .i32 hi_]) → (v'.ownBlock = v.ownBlock ∨ ∃ g, v'.ownBlock = some g ∧ A.heap.size ≤ g) → Chg (fun k => some k = vcl.ownBlock ∨ some k = v.ownBlock) A A' → Q .normal a' A') :
   (Code.region 12 ops12 true).wpIn (Fence.wide.inRound lp) nn Tryz.prog Q a A := by
 have hblk := ho.lt
 have hS0 : some S ≠ v.ownBlock := fun e => by have := hblk S e.symm; omega
 have hS1 : some (S + 1) ≠ v.ownBlock := fun e => by have := hblk (S + 1) e.symm; omega
 have hlt : S + 1 < A.heap.size := by omega
 have hrl : rb < A.heap.size := (Array.getElem?_eq_some_iff.1 hrb).1
 obtain ⟨hxl, ⟨_, hN0⟩ | ⟨g, cap, cur, rfl, hge, hg, hNc, hcm, hcs, htk⟩⟩ := hoc
 · omega
 have hgl : g < A.heap.size := (Array.getElem?_eq_some_iff.1 hg).1
 have hG : some g ≠ v.ownBlock := fun e => by
   obtain ⟨_, ⟨hv, _⟩ | ⟨g', cap, cur, rfl, _, hg', _⟩⟩ := ho
   · rw [hv] at e; cases e
   · cases e
     rw [hg] at hg'
     cases hg'
 have hcur : cur[0 + k * 2 + 1]? = some v := by
   rw [← htk, List.getElem?_take] at hx
   split at hx
   · rw [Nat.zero_add, ← Array.getElem?_toList]; exact hx
   · cases hx
 obtain ⟨v', w', hrun, ho', hch, hat, g', cp, hv'⟩ := app_one (T := 22) (e := 140) (z0 := .int .i32 0) (z1 := .int .i32 0) (by_ := 8) (by kernel_rfl) (by kernel_rfl) (by kernel_rfl) (by decide) 22 (w := A.drew) (c0 := .int .i32 lo) (c1 := .int .i32 hi_) ho heA hM rfl rfl
 obtain ⟨i0, hi, hz0, hz1, _⟩ := info_parts2 (P := Tryz.prog) (e := 140) (z := .agg #[.int .i32 0, .int .i32 0]) (s := 2) (b := 8) (by kernel_rfl)
 let T : World → Prop := fun w' => ∀ k, k < A.heap.size → some k ≠ v.ownBlock → w'.heap[k]? = A.heap[k]?
 have tS : ∀ w', T w' → w'.heap[S]? = some (.cells #[.int .i64 (n : Int), .slice (some ⟨g, 0, none⟩) N cap, vps] 69 (0, 0)) := fun w' hw => (hw S (by omega) hS0).trans hst
 have tB : ∀ w', T w' → w'.heap[S + 1]? = some (.cells #[.pointer (some ⟨S, 0, none⟩)] 91 (0, 0)) := fun w' hw => (hw (S + 1) hlt hS1).trans hbx
 have tR : ∀ w', T w' → w'.heap[rb]? = some (.cells #[.int .i32 lo, .int .i32 hi_] 140 (0, 0)) := fun w' hw => (hw rb hrl hR).trans hrb
 have tG : ∀ w', T w' → w'.heap[g]? = some (.cells cur 143 (0, 0)) := fun w' hw => (hw g hgl hG).trans hg
 have hT0 : T A.drew := fun _ _ _ => rfl
 have hix : ∀ w', (sizeOf (Tryz.prog.elem 66)).run Tryz.prog w' = .ok 2 w' := fun w' => Tryz.sizeOf143 w'
 refine Rst.startR 18 T (by kernel_rfl) (by kernel_rfl) hQo ?_
 refine Rst.take hQ 0 _ 50 (.pointer (some ⟨S, 0, none⟩)) rfl (by kernel_rfl) rfl (by simp [Reg.inB]) rfl hT0 (fun w' hw => Reg.ld1 rfl h3 (cell_at (tB w' hw) rfl) (Tryz.isAgg91 _)) ?_
 refine Rst.take hQ 1 _ 51 (.pointer (some ⟨S, 0, none⟩)) rfl (by kernel_rfl) rfl (by simp [Reg.inB, hsz]) rfl hT0 (fun w' hw => Reg.nc rfl rfl) ?_
 refine Rst.take hQ 2 _ 52 (.pointer (some ⟨S, 1, none⟩)) rfl (by kernel_rfl) rfl (by simp [Reg.inB, hsz]) rfl hT0 (fun w' hw => Reg.fa rfl rfl (fa54_1 _ _ _)) ?_
 refine Rst.take hQ 3 _ 53 (.slice (some ⟨g, 0, none⟩) N cap) rfl (by kernel_rfl) rfl (by simp [Reg.inB, hsz]) rfl hT0 (fun w' hw => Reg.ld1 rfl rfl (cell_at (tS w' hw) rfl) (Tryz.isAgg66 _)) ?_
 refine Rst.take hQ 4 _ 54 (.int .i64 (k : Int)) rfl (by kernel_rfl) rfl (by simp [Reg.inB, hsz]) rfl hT0 (fun w' hw => Reg.mv rfl h7) ?_
 refine Rst.take hQ 5 _ 55 (.pointer (some ⟨S, 0, none⟩)) rfl (by kernel_rfl) rfl (by simp [Reg.inB, hsz]) rfl hT0 (fun w' hw => Reg.ld1 rfl h3 (cell_at (tB w' hw) rfl) (Tryz.isAgg91 _)) ?_
 refine Rst.take hQ 6 _ 56 (.pointer (some ⟨S, 0, none⟩)) rfl (by kernel_rfl) rfl (by simp [Reg.inB, hsz]) rfl hT0 (fun w' hw => Reg.nc rfl rfl) ?_
 refine Rst.take hQ 7 _ 57 (.pointer (some ⟨S, 1, none⟩)) rfl (by kernel_rfl) rfl (by simp [Reg.inB, hsz]) rfl hT0 (fun w' hw => Reg.fa rfl rfl (fa54_1 _ _ _)) ?_
 refine Rst.take hQ 8 _ 58 (.slice (some ⟨g, 0, none⟩) N cap) rfl (by kernel_rfl) rfl (by simp [Reg.inB, hsz]) rfl hT0 (fun w' hw => Reg.ld1 rfl rfl (cell_at (tS w' hw) rfl) (Tryz.isAgg66 _)) ?_
 refine Rst.take hQ 9 _ 59 (.int .i64 (k : Int)) rfl (by kernel_rfl) rfl (by simp [Reg.inB, hsz]) rfl hT0 (fun w' hw => Reg.mv rfl h7) ?_
 refine Rst.take hQ 10 _ 60 (.pointer (some ⟨g, 0 + k * 2, none⟩)) rfl (by kernel_rfl) rfl (by simp [Reg.inB, hsz]) rfl hT0 (fun w' hw => Reg.ix rfl rfl rfl hk (by kernel_rfl) (hix w')) ?_
 refine Rst.take hQ 11 _ 61 (.pointer (some ⟨g, 0 + k * 2 + 1, none⟩)) rfl (by kernel_rfl) rfl (by simp [Reg.inB, hsz]) rfl hT0 (fun w' hw => Reg.fa rfl rfl (fa63_1 _ _ _)) ?_
 refine Rst.take hQ 12 _ 62 v rfl (by kernel_rfl) rfl (by simp [Reg.inB, hsz]) rfl hT0 (fun w' hw => Reg.ld1 rfl rfl (cell_at (tG w' hw) hcur) (Tryz.isAgg22 _)) ?_
 refine Rst.take hQ 13 _ 63 (.agg #[.int .i32 lo, .int .i32 hi_]) rfl (by kernel_rfl) rfl (by simp [Reg.inB, hsz]) rfl hT0 (fun w' hw => Reg.ld rfl h5 (range_block (tR w' hw)) Tryz.underlying140 rfl (by kernel_rfl)) ?_
 refine Rst.only 14 _ 64 rfl (by kernel_rfl) rfl (by simp [Reg.inB, hsz]) rfl ⟨_, _, Reg.bs (vs := #[(0, .agg #[.int .i32 lo, .int .i32 hi_])]) (cs := #[.int .i32 lo, .int .i32 hi_]) i0 _ rfl (by simp [Reg.ev, Reg.look]) (by kernel_rfl) hi hz0 (by rw [hz1]; decide) (by rw [hz1]; decide) (by rw [hz1]; kernel_rfl), fun k hk _ => Below.heap_alloc _ _ _ hk, ?_⟩
 refine Rst.only 15 _ 65 rfl (by kernel_rfl) rfl (by simp [Reg.inB, hsz]) rfl ⟨v', w', Reg.app rfl rfl rfl hrun, fun k hk hn => hch.block k hk hn, ?_⟩
 have hT1 : T w' := fun k hk hn => hch.block k hk hn
 refine Rst.only 16 _ 66 rfl (by kernel_rfl) rfl (by simp [Reg.inB, hsz]) rfl ⟨.pointer (some ⟨g, 0 + k * 2, none⟩), w', Reg.ix rfl rfl rfl hk (by kernel_rfl) (hix w'), hT1, ?_⟩
 refine Rst.only 17 _ 67 rfl (by kernel_rfl) rfl (by simp [Reg.inB, hsz]) rfl ⟨.pointer (some ⟨g, 0 + k * 2 + 1, none⟩), w', Reg.fa rfl rfl (fa63_1 _ _ _), hT1, ?_⟩
 refine Rst.last _ rfl (by kernel_rfl) rfl (by simp [Reg.inB, hsz]) rfl ⟨w'.setCell ⟨g, 0 + k * 2 + 1, none⟩ v', Reg.st1 rfl rfl rfl (cell_at (tG w' hT1) hcur) (frozen_at (tG w' hT1)) (.inr ⟨_, _, _, hv'⟩) (Tryz.sizeOf22 _), ?_⟩
 refine Rst.done (by kernel_rfl) ?_
 have hc := chg_set w' g (0 + k * 2 + 1) v'
 refine h _ _ v' (fr_ov (by simp [Reg.inB, hsz]) (by kernel_rfl)) ?_ ?_ hat ?_
 · refine ⟨by simpa using hxl, .inr ⟨g, cap, cur.setIfInBounds (0 + k * 2 + 1) v', rfl, hge, set_at v' (tG w' hT1), hNc, hcm, by simpa using hcs, ?_⟩⟩
   rw [Array.toList_setIfInBounds, List.take_set, htk, Nat.zero_add]
 · refine ho'.kept (w' := w'.setCell ⟨g, 0 + k * 2 + 1, none⟩ v') (row := some g) ⟨hc.os, hc.tape, hc.output, hc.size, fun k hk hn => hc.block k hk (fun e => hn (by rw [e]))⟩ (.inr fun e => ?_)
   obtain ⟨_, ⟨hv, _⟩ | ⟨g2, _, _, hv2, _, hg2, _⟩⟩ := ho'
   · rw [hv] at e; cases e
   · rw [hv2] at e
     cases e
     rw [tG w' hT1] at hg2
     cases hg2
 · have hc2 := (show Chg (fun k => some k = v.ownBlock) A w' from ⟨hch.os, hch.tape, hch.output, hch.size, hch.block⟩).trans hc
   exact hc2.mono fun k _ hk => hk.symm.imp (fun e => by rw [e]; rfl) id
end Go.Proofs.YtgngaldoemopjaaGreatDoor.U
namespace Go.Proofs.YtgngaldoemopjaaGreatDoor.U
open Go.RowKit Go.Shelf
theorem rdl_two {W : World} {ao bo : Option Addr} {ca cb : Nat} {xs ys : List S.R} (T : TypeId) (h : RdR W ao xs) (h2 : RdR W bo ys) : RdL (W.alloc (.cells #[.slice ao xs.length ca, .slice bo ys.length cb] T)) W.heap.size 0 [(ao, ca, xs), (bo, cb, ys)] := by
 have hc := cells_two (World.alloc_heap_new W (.cells #[.slice ao xs.length ca, .slice bo ys.length cb] T))
 refine ⟨fun i hi => ?_, fun p hp => ?_, by simp⟩
 · match i, hi with
   | 0, _ => exact hc.1
   | 1, _ => exact hc.2
   | i + 2, hi => exact absurd hi (by simp)
 · simp at hp
   rcases hp with rfl | rfl
   · exact h.later (al1 W _)
   · exact h2.later (al1 W _)
theorem setOf2 (ao bo : Option Addr) (ca cb : Nat) (xs ys : List S.R) (T : TypeId) (hl : xs.length + ys.length ≤ 1000000) (W : World) (h : RdR W ao xs) (h2 : RdR W bo ys) :
   Calls Tryz.prog 161 #[.slice (some ⟨W.heap.size, 0, none⟩) 2 2] (W.alloc (.cells #[.slice ao xs.length ca, .slice bo ys.length cb] T)) (Res W (S.set (xs ++ ys))) := by
 have h1 := setOf_any W.heap.size 0 2 [(ao, ca, xs), (bo, cb, ys)] (by simp) (fun p hp => by simp at hp; rcases hp with rfl | rfl <;> simp <;> omega) (by simp [flat]; omega) _ (rdl_two T h h2)
 rw [show flat [(ao, ca, xs), (bo, cb, ys)] = xs ++ ys by simp [flat]] at h1
 refine h1.mono ?_
 rintro e W' ⟨u, rfl, ho, _, hb⟩
 exact ho.res (nx (al1 W _) hb)
set_option maxHeartbeats 1000000 in
theorem union_any (ao bo : Option Addr) (ca cb : Nat) (xs ys : List S.R) (hl : xs.length + ys.length ≤ 1000000) (w : World) (h : RdR w ao xs) (h2 : RdR w bo ys) :
   Calls Tryz.prog 131 #[.slice ao xs.length ca, .slice bo ys.length cb] w (Res w (S.set (xs ++ ys))) := by
 have hsl := S.set_length (xs ++ ys)
 rw [List.length_append] at hsl
 go_enter Tryz.func131, Tryz.ntmps131
 go_wp2_with fail
 refine (setOf2 ao bo ca cb xs ys _ hl w h h2).mono ?_
 rintro e w1 ⟨a1, c1, rfl, hr1, _, hb1⟩
 generalize S.set (xs ++ ys) = zs at *
 go_wp2_with fail
 refine (values_gives a1 zs c1 (by omega) w1 hr1).mono ?_
 rintro e w2 ⟨v, rfl, hit, hb2⟩
 have hlo := listOf_any v zs (by omega) w2 w2 hit (Below.refl _ _)
 obtain ⟨gf, lb, rfl, _, _⟩ := hit
 go_wp2_with fail
 refine hlo.mono ?_
 rintro e w3 ⟨u, rfl, ho, hb3⟩
 obtain ⟨a3, c3, rfl, _, hn3, hr3⟩ := ho.rd
 go_wp2
 go_ret
 exact ⟨a3, c3, rfl, hr3, hn3, nx (nx hb1 hb2) hb3⟩
end Go.Proofs.YtgngaldoemopjaaGreatDoor.U
namespace Go.Proofs.YtgngaldoemopjaaGreatDoor.U
open Go.RowKit Go.Shelf
attribute [local go_sem] Oper.semAt_some
theorem evT_in {T : List (List S.R)} {n : Nat} {x : Int} {i : Nat} (h : (x, i) ∈ evT T n) : 0 ≤ x ∧ x ≤ 1114112 := by
 obtain ⟨k, _, h1⟩ := List.mem_flatMap.1 h
 obtain ⟨_, r, hr, h2⟩ := evR_mem h1
 have := (S.good_iff r).1 ((S.set_canon _).good r hr)
 simp only at h2
 omega
theorem wrap_pow (i : Nat) (hi : i < 64) : IntKind.u64.wrap ((2 : Int) ^ i) = ((2 ^ i : Nat) : Int) := by
 have h : (2 : Nat) ^ i < 2 ^ 64 := Nat.pow_lt_pow_right (by decide) hi
 rw [IntKind.wrap_u64, show ((2 : Int) ^ i) = ((2 ^ i : Nat) : Int) by push_cast; rfl]
 generalize (2 : Nat) ^ i = p at h
 omega
set_option maxRecDepth 100000 in
set_option maxHeartbeats 8000000 in
theorem ends1_in (n : Nat) (hn : 1 ≤ n) (Bn cap : Nat) (sao : Option Addr) (ls : List L3) (hl : ls.length ≤ 64) (hl2 : ∀ p ∈ ls, p.2.2.length ≤ 5000) (l : Nat) (J : List (Int × Nat) → World → Prop) (W : World)
   (hbox : W.cell? ⟨Bn, 0, none⟩ = some (.slice sao ls.length cap)) (hrd : RdS W sao ls) (hJ : ∀ s A B, J s A → Quiet W.heap.size A B → J s B)
   (hY : ∀ pre x W1, J pre W1 → pre ++ [x] <+: endsZ ls → YieldAt Fence.wide (n - 1) Tryz.prog l (encE x) W1 fun e W' => e = .returned (.bool true) ∧ J (pre ++ [x]) W' ∧ Kept W.heap.size W1 W') (h0 : J [] W) :
   CallsIn Fence.wide n Tryz.prog 130 #[.func (.yield l) #[] #[], .pointer (some ⟨Bn, 0, none⟩)] W fun e W' => (∃ v, e = .returned v) ∧ J (endsZ ls) W' := by
 have hev : ∀ i, (evT (TOf ls) i).length ≤ i * 10000 := evT_length (m := 5000) (fun x hx => by obtain ⟨p, hp, rfl⟩ := List.mem_map.1 hx; exact hl2 p hp)
 have hmm := @run_makeMap Tryz.prog
 refine callsIn_of_wp Tryz.func130 rfl trivial ?_ rfl
 simp only [Tryz.ntmps130, List.size_toArray, List.length_cons, List.length_nil, Nat.reduceAdd, Nat.reduceSub, Array.replicate_succ, Array.replicate_zero, List.push_toArray, List.append_toArray, List.nil_append, List.cons_append]
 have hmp : Mp (W.alloc (.map #[] 0)) 21 .i32 141 .u64 W.heap.size 0 (mpf (evT (TOf ls) 0)) := Mp.made W
 have hB0 := al1 W (.map #[] 0)
 have hbox0 := cell_later hB0 hbox
 gi_wp2
 clear hbox0 hmm
 gi_loopw [13] (fun p wr => ∃ i : Nat, p = .int .i64 (i : Int) ∧ i ≤ ls.length ∧ Mp wr 21 .i32 141 .u64 W.heap.size (evT (TOf ls) i).length (mpf (evT (TOf ls) i)) ∧ Below W.heap.size W wr) (fun p _ => ls.length - (intOf p).toNat)
 case atStart => exact ⟨0, rfl, Nat.zero_le _, hmp, hB0⟩
 case round =>
   clear hmp hB0
   obtain ⟨i, rfl, hi, hmp, hB⟩ := hrel
   by_cases hlt : i < ls.length
   · obtain ⟨sb, soff, rfl, hc1, hr1⟩ := (hrd.later hB) i hlt
     have hT := TOf_at ls i hlt
     have hli := hl2 _ (List.getElem_mem hlt)
     have HS := hide (evT_succ (TOf ls) i)
     rw [hT] at HS
     have hE0 := hev i
     have HE64 : Hid (∀ p ∈ evT (TOf ls) i, p.2 < i) := hide fun p hp => evT_lt hp
     generalize evT (TOf ls) i = E0 at *
     generalize ls[i] = p at *
     obtain ⟨ao, cp, xs⟩ := p
     simp only at hc1 hr1 HS hli
     have hun := union_any ao none cp 0 xs [] (by simp; omega) wr hr1 (rdr_nil _ _)
     rw [List.append_nil] at hun
     have hzl := S.set_length xs
     have hzc := S.set_canon xs
     generalize S.set xs = zs at *
     gi_wp2_with (refine ⟨trivial, ?_⟩; gi_at_call 131; refine (callsIn_wide.2 hun).mono ?_; clear hun; rintro e w2 ⟨a2, c2, rfl, hr2, _, hb2⟩)
     have hmp2 := hmp.later hb2
     have hB2 := nx hB hb2
     gi_loopw [21] (fun p wq => ∃ j : Nat, p = .int .i64 (j : Int) ∧ j ≤ zs.length ∧ Mp wq 21 .i32 141 .u64 W.heap.size (E0 ++ evR i (zs.take j)).length (mpf (E0 ++ evR i (zs.take j))) ∧ Below W.heap.size W wq ∧ RdR wq a2 zs) (fun p _ => zs.length - (intOf p).toNat)
     case atStart => exact ⟨0, rfl, Nat.zero_le _, by simpa [evR] using hmp2, hB2, hr2⟩
     case round =>
       clear hmp hmp2 hr2 hc1 hr1
       obtain ⟨j, rfl, hj, hmp, hBq, hrz⟩ := hrel
       by_cases hjt : j < zs.length
       · obtain ⟨b2, off2, rfl, hz1, hz2⟩ := hrz j hjt
         have HT := hide (evR_take i zs j hjt)
         have hgz := (S.good_iff _).1 (hzc.good _ (List.getElem_mem hjt))
         generalize zs[j] = r at *
         obtain ⟨lo, hi⟩ := r
         simp only at hz1 hz2 hgz HT
         gi_wp2
         have hba := al1 wr (.cells #[.int .i32 lo, .int .i32 hi] 140)
         have hca := cells_two (World.alloc_heap_new wr (.cells #[.int .i32 lo, .int .i32 hi] 140))
         replace hmp := hmp.later hba
         replace hBq := nx hBq hba
         replace hrz := hrz.later hba
         generalize (wr.alloc (.cells #[.int .i32 lo, .int .i32 hi] 140)) = wa at *
         obtain ⟨hca0, hca1⟩ := hca
         obtain ⟨mes, mcl, hmpm⟩ := hmp.isMap
         have hL1 : (E0 ++ evR i (zs.take j)).length ≤ i * 10000 + 10000 := by
           rw [List.length_append, evR_length, List.length_take]
           omega
         have HL64 : Hid (∀ p ∈ E0 ++ evR i (zs.take j), p.2 < 64) := hide fun p hp => by
           rcases List.mem_append.1 hp with h | h
           · have := HE64.out p h; omega
           · rw [(evR_mem h).1]; omega
         have HW2 := hide (wrap_pow i (by omega))
         have HLL := hide hL1
         generalize hLg : E0 ++ evR i (zs.take j) = L1 at *
         have hwf : ∀ q, (wa.drewN q).frozen? ⟨wr.heap.size, 0, none⟩ = (wa.drewN q).frozen? ⟨wr.heap.size, 0, none⟩ := fun _ => rfl
         clear hwf
         have hlkA : (Instr.lookup 214 (.map (some W.heap.size)) (.int .i32 (lo)) false).run Tryz.prog wa.drew = .ok (.int .u64 ((((evN L1 (lo)).getD 0 : Nat) : Int))) wa.drew := (Mp.look (w := wa.drew) hmp Tryz.underlying21 Tryz.underlying214 Tryz.underlying141 (Tryz.zeroValue141 _) (x := lo) (wf32 (by omega))).trans (by rw [mpf_get])
         have hc64A : (evN L1 (lo)).getD 0 < 2 ^ 64 := evN_lt L1 64 (fun p hp => HL64.out p hp) _
         have HSNA := hide (mpf_snoc L1 (lo) i)
         have hx64A : (evN L1 (lo)).getD 0 ^^^ 2 ^ i < 2 ^ 64 := Nat.xor_lt_two_pow hc64A (Nat.pow_lt_pow_right (by omega) (by omega))
         have hbxA : bits .xor .u64 ((((evN L1 (lo)).getD 0 : Nat) : Int)) (IntKind.u64.wrap (2 ^ i)) = ((((evN L1 (lo)).getD 0 ^^^ 2 ^ i : Nat) : Nat) : Int) := by
           rw [HW2.out]
           exact bits_xor_u64_nat _ _ (by omega) (Nat.pow_lt_pow_right (by omega) (by omega : i < 64))
         generalize (evN L1 (lo)).getD 0 ^^^ 2 ^ i = vA at *
         generalize (evN L1 (lo)).getD 0 = cA at *
         obtain ⟨wA, hstA, hmpA, hgA, hsA⟩ := Mp.store (w := wa.drew) hmp Tryz.underlying21 Tryz.underlying214 Tryz.underlying141 (by unfold maxLen; omega) (x := lo) (v := (vA : Int)) (wf32 (by omega)) (wf64 hx64A)
         rw [← HSNA.out] at hmpA
         clear hmp
         refine wpIn_wide.2 ?_
         go_region
         have hbwA : wa.grownBy wA (some W.heap.size) := ⟨hgA.os, hgA.tape, hgA.output, hgA.size, hgA.block⟩
         replace hBq := below_grown hBq hbwA (Nat.le_refl _) (Nat.le_refl _)
         have hncA : ∀ r, some W.heap.size = some r → ∃ o : Obj, wa.heap[r]? = some o ∧ o.isCells = false := fun r e => by
           cases e
           exact ⟨_, hmpm, rfl⟩
         replace hrz := hrz.kept hbwA hncA
         replace hca1 := cell_kept hca1 hbwA hncA
         have hmp := hmpA
         clear hmpm
         obtain ⟨mes2, mcl2, hmpm⟩ := hmpA.isMap
         clear hca0 hncA hbwA hgA hstA hlkA hbxA hmpA HSNA hc64A hx64A hsA
         have HL64b : Hid (∀ p ∈ L1 ++ [(lo, i)], p.2 < 64) := hide fun p hp => by
           rcases List.mem_append.1 hp with h | h
           · exact HL64.out p h
           · obtain rfl : p = (lo, i) := by simpa using h
             show i < 64
             omega
         clear HL64
         have HL64 := HL64b
         clear HL64b
         have hL2 : (L1 ++ [(lo, i)]).length ≤ i * 10000 + 10001 := by
           rw [List.length_append]
           have := HLL.out
           simp
           omega
         have hmpL : Mp wA 21 .i32 141 .u64 W.heap.size (L1 ++ [(lo, i)]).length (mpf (L1 ++ [(lo, i)])) := by
           rw [List.length_append]
           exact hmp
         clear hmp
         have hmp := hmpL
         clear hmpL
         generalize hLg2 : L1 ++ [(lo, i)] = L2 at *
         gi_wp2
         have hlkB : (Instr.lookup 214 (.map (some W.heap.size)) (.int .i32 (hi + 1)) false).run Tryz.prog wA.drew = .ok (.int .u64 ((((evN L2 (hi + 1)).getD 0 : Nat) : Int))) wA.drew := (Mp.look (w := wA.drew) hmp Tryz.underlying21 Tryz.underlying214 Tryz.underlying141 (Tryz.zeroValue141 _) (x := hi + 1) (wf32 (by omega))).trans (by rw [mpf_get])
         have hc64B : (evN L2 (hi + 1)).getD 0 < 2 ^ 64 := evN_lt L2 64 (fun p hp => HL64.out p hp) _
         have HSNB := hide (mpf_snoc L2 (hi + 1) i)
         have hx64B : (evN L2 (hi + 1)).getD 0 ^^^ 2 ^ i < 2 ^ 64 := Nat.xor_lt_two_pow hc64B (Nat.pow_lt_pow_right (by omega) (by omega))
         have hbxB : bits .xor .u64 ((((evN L2 (hi + 1)).getD 0 : Nat) : Int)) (IntKind.u64.wrap (2 ^ i)) = ((((evN L2 (hi + 1)).getD 0 ^^^ 2 ^ i : Nat) : Nat) : Int) := by
           rw [HW2.out]
           exact bits_xor_u64_nat _ _ (by omega) (Nat.pow_lt_pow_right (by omega) (by omega : i < 64))
         generalize (evN L2 (hi + 1)).getD 0 ^^^ 2 ^ i = vB at *
         generalize (evN L2 (hi + 1)).getD 0 = cB at *
         obtain ⟨wB, hstB, hmpB, hgB, hsB⟩ := Mp.store (w := wA.drew) hmp Tryz.underlying21 Tryz.underlying214 Tryz.underlying141 (by unfold maxLen; omega) (x := hi + 1) (v := (vB : Int)) (wf32 (by omega)) (wf64 hx64B)
         rw [← HSNB.out] at hmpB
         clear hmp
         refine wpIn_wide.2 ?_
         go_region
         have hbwB : wA.grownBy wB (some W.heap.size) := ⟨hgB.os, hgB.tape, hgB.output, hgB.size, hgB.block⟩
         replace hBq := below_grown hBq hbwB (Nat.le_refl _) (Nat.le_refl _)
         have hncB : ∀ r, some W.heap.size = some r → ∃ o : Obj, wA.heap[r]? = some o ∧ o.isCells = false := fun r e => by
           cases e
           exact ⟨_, hmpm, rfl⟩
         replace hrz := hrz.kept hbwB hncB
         have hmpL : Mp wB 21 .i32 141 .u64 W.heap.size (L2 ++ [(hi + 1, i)]).length (mpf (L2 ++ [(hi + 1, i)])) := by
           rw [List.length_append]
           exact hmpB
         clear hmpB hncB hbwB hgB hstB hlkB hbxB HSNB hc64B hx64B hsB hca1 hmpm
         gi_wp2
         go_roundw
         case rel =>
           refine ⟨j + 1, by go_num, by omega, ?_, hBq, hrz⟩
           rw [HT.out, ← List.append_assoc, ← List.append_assoc, hLg, hLg2]
           exact hmpL
         case measure => simp [intOf]; omega
       · obtain rfl : j = zs.length := by omega
         rw [List.take_length, ← HS.out] at hmp
         gi_wp2
         go_roundw
         case rel => exact ⟨i + 1, by go_num, by omega, hmp, hBq⟩
         case measure => simp [intOf]; omega
   · obtain rfl : i = ls.length := by omega
     have hlen := hev ls.length
     have HZ : Hid (endsZ ls = (ksOf (evT (TOf ls) ls.length)).map fun k => (k, (evN (evT (TOf ls) ls.length) k).getD 0)) := hide rfl
     have HI : Hid (∀ x i, (x, i) ∈ evT (TOf ls) ls.length → 0 ≤ x ∧ x ≤ 1114112) := hide fun x i h => evT_in h
     have H64 : Hid (∀ p ∈ evT (TOf ls) ls.length, p.2 < 64) := hide fun p hp => by have := evT_lt hp; omega
     generalize evT (TOf ls) ls.length = L at *
     have hba := al1 wr (.cells #[.map (some W.heap.size)] 214)
     have hcm := (Boxed.new wr 214 (.map (some W.heap.size))).cell
     have hso := sorted32_any wr.heap.size W.heap.size L.length (mpf L) (by omega) (wr.alloc (.cells #[.map (some W.heap.size)] 214)) (by simp) hcm (hmp.later hba)
     have hBa := nx hB hba
     have hmpa := hmp.later hba
     clear hmp hcm hlt hev hl2 hbox hrd
     gi_wp2_with (first
       | (refine ⟨trivial, ?_⟩; gi_at_call 133; refine (callsIn_wide.2 (keysMake_any (some W.heap.size) _)).mono ?_; rintro e w2 ⟨rfl, rfl⟩)
       | (refine ⟨trivial, ?_⟩; gi_at_call 132; refine (callsIn_wide.2 hso).mono ?_; clear hso; rintro e w3 ⟨u, ys, rfl, ho, hsd, hmem, hyl, hb3⟩; obtain ⟨ao3, cap3, rfl, hblk, hrd3⟩ := ho.rd; clear ho))
     have hmp3 := hmpa.later hb3
     have hB3 := nx hBa hb3
     have hys : ys = ksOf L := sorted_unique hsd (ksOf_sorted L) fun x => by
       rw [hmem x, ksOf_mem, ← evN_some]
       have e1 : (mpf L x).isSome = (evN L x).isSome := by unfold mpf; cases evN L x <;> rfl
       rw [e1]
       constructor
       · exact fun h => h.2
       · intro h
         obtain ⟨i, hi⟩ := (evN_some L x).1 h
         exact ⟨wf32 (by have := HI.out x i hi; omega), h⟩
     have hsa : (wr.alloc (.cells #[.map (some W.heap.size)] 214)).heap.size = wr.heap.size + 1 := by simp
     have HZ2 : Hid (endsZ ls = ys.map fun k => (k, (evN L k).getD 0)) := hide (by rw [HZ.out, hys])
     have Hmem := hide hmem
     clear HZ hys hsd hmem hmpa hBa hba
     have h03 : J [] w3 := hJ [] W w3 h0 (quiet_below hB3)
     have hwfy : ∀ y ∈ ys, (Lit.int .i32 y).wf = true := fun y hy => ((Hmem.out y).1 hy).1
     clear Hmem
     gi_loopw [46] (fun p wq => ∃ k : Nat, p = .int .i64 (k : Int) ∧ k ≤ ys.length ∧ J ((endsZ ls).take k) wq ∧ w3.heap.size ≤ wq.heap.size ∧ wq.heap[W.heap.size]? = w3.heap[W.heap.size]? ∧ ∀ g off, ao3 = some ⟨g, off, none⟩ → wq.heap[g]? = w3.heap[g]?) (fun p _ => ys.length - (intOf p).toNat)
     case atStart => exact ⟨0, rfl, Nat.zero_le _, h03, Nat.le_refl _, rfl, fun _ _ _ => rfl⟩
     case round =>
       rename World => wq
       obtain ⟨k, rfl, hk, hJk, hszk, hmk, hrk⟩ := hrel
       by_cases hkt : k < ys.length
       · obtain ⟨g, off, rfl, hcell⟩ := hrd3 k hkt
         have hgk := hrk g off rfl
         obtain ⟨hBg, ⟨cur, hcur⟩, h00⟩ := hblk g off rfl
         clear h00
         have hcq : wq.cell? ⟨g, off + k, none⟩ = some (.int .i32 ys[k]) := (World.cell?_of_block (a := ⟨g, off + k, none⟩) hgk).trans hcell
         have hmq := hmp3.kept hmk
         have hlk := hmq.look Tryz.underlying21 Tryz.underlying214 Tryz.underlying141 (Tryz.zeroValue141 _) (x := ys[k]) (hwfy _ (List.getElem_mem hkt))
         rw [mpf_get] at hlk
         have hzk : (endsZ ls)[k]'(by rw [HZ2.out]; simpa using hkt) = (ys[k], (evN L ys[k]).getD 0) := by simp [HZ2.out]
         have hzl : k < (endsZ ls).length := by rw [HZ2.out]; simpa using hkt
         have HTk : Hid ((endsZ ls).take (k + 1) = (endsZ ls).take k ++ [(ys[k], (evN L ys[k]).getD 0)]) := hide (by rw [← hzk]; exact List.take_succ_eq_append_getElem hzl)
         obtain ⟨fn, tmps, assign, body, hy, hR⟩ := hY ((endsZ ls).take k) (ys[k], (evN L ys[k]).getD 0) wq hJk (by rw [← HTk.out]; exact List.take_prefix _ _)
         simp only [encE] at hy
         generalize ys[k] = y at *
         generalize (evN L y).getD 0 = c at *
         obtain ⟨mes, mcl, hmo⟩ := hmp3.isMap
         have HMO := hide hmo
         have HMK := hide (hmk.trans hmo)
         have HCU := hide hcur
         have HGK := hide (hgk.trans hcur)
         clear hmo hmk hcur hgk hrk hcell hmq hblk hrd3
         gi_wp2
         refine hR.mono ?_
         rintro e W4 ⟨rfl, hJ4, hk4⟩
         gi_wp2
         go_roundw
         case rel =>
           refine ⟨k + 1, by go_num, by omega, by rw [HTk.out]; exact hJ4, Nat.le_trans hszk hk4.size, ?_, ?_⟩
           · rw [HMO.out]
             exact hk4.same _ _ HMK.out (Nat.le_refl _) rfl
           · intro g' off' e
             cases e
             rw [HCU.out]
             exact hk4.same _ _ HGK.out (by have := hB.size; omega) rfl
         case measure => simp [intOf]; omega
       · obtain rfl : k = ys.length := by omega
         have hJz : J (endsZ ls) wq := by
           have e : (endsZ ls).take ys.length = endsZ ls := List.take_of_length_le (by rw [HZ2.out]; simp)
           rw [e] at hJk
           exact hJk
         gi_wp2
         go_end0
         exact ⟨⟨_, rfl⟩, hJz⟩
end Go.Proofs.YtgngaldoemopjaaGreatDoor.U
