/- Joined: Pll Plv. -/
import Derived.Test.YtgngaldoemopjaaGreatDoorFUHas
import Derived.Maps.AppendAt
namespace Go.Proofs.YtgngaldoemopjaaGreatDoor
open Go.RowKit Go.Shelf
attribute [local go_sem] Oper.semAt_some
theorem info140 : (Tryz.prog.info? 140).map (fun i => (i.zero, i.size, i.bytes)) = some (some (.agg #[.int .i32 0, .int .i32 0]), 2, 8) := by kernel_rfl
theorem info104 : (Tryz.prog.info? 104).map (fun i => (i.zero, i.size, i.bytes)) = some (some (.agg #[.slice none 0 0, .int .u64 0]), 2, 32) := by kernel_rfl
set_option maxRecDepth 100000 in
set_option maxHeartbeats 2000000 in
theorem cloneR_any (ao : Option Addr) (c : Nat) (xs : List U.S.R) (hl : xs.length ≤ 1000000) (w : World) (hr : U.RdR w ao xs) : Calls Tryz.prog 97 #[.slice ao xs.length c] w fun e w' => ∃ v', e = .returned v' ∧ U.OwnR w' w.heap.size 140 v' xs ∧ Below w.heap.size w w' := by
 have heq : (binOp .eql 22 (.slice ao xs.length c) (.slice none 0 0)).run Tryz.prog w = .ok (.bool ao.isNone) w := by
   simp only [binOp]
   simp [run_equal_slice_nil w 22 140 ao xs.length c Tryz.underlying22]
 cases ao with
 | none =>
   have hx : xs = [] := by
     cases xs with
     | nil => rfl
     | cons x l =>
       obtain ⟨_, _, e, _⟩ := hr 0 (by simp)
       cases e
   subst hx
   simp only [List.length_nil, Option.isNone_none] at heq ⊢
   go_enter Tryz.func97, Tryz.ntmps97
   go_wp2
   go_ret
   exact ⟨_, rfl, World.ownsRow_nil w w.heap.size 140 2, Below.refl _ _⟩
 | some a =>
   simp only [Option.isNone_some] at heq
   have hown : U.OwnR (w.alloc (.cells #[] 140)) w.heap.size 140 (.slice (some ⟨w.heap.size, 0, none⟩) 0 0) [] := World.ownsRow_made w #[] 0 (Nat.le_refl _) (by decide) rfl
   go_enter Tryz.func97, Tryz.ntmps97
   go_wp2_with (at_builtin; refine U.wpl_appR Tryz.underlying22 info140 rfl _ _ rfl w.heap.size _ [] (some a) xs xs.length c rfl rfl rfl hown (by simp) (hr.later (al1 _ _)) (fun e => by cases e) (by simp; omega) ?_; intro v' w5 hown' hb5 hgr5)
   go_ret
   exact ⟨_, rfl, hown', (al1 w (.cells #[] 140)).trans hb5⟩
theorem Reg.bldP {w : World} {ρ : Operand → Value} {o : Oper} {x : Operand} {u : Value} {ao : Option Addr} {n c : Nat} (hop : o.op = .build 104 #[(0, x)]) (hx : ρ x = u) (hu : u = .slice ao n c) : (execOp ρ o).run Tryz.prog w = .ok (.value (.agg #[u, .int .u64 0])) w := by
 obtain ⟨dst, op, type, pos, after, guard⟩ := o
 simp only at hop
 subst hop
 subst hu
 simp [execOp, hx, go_sem]
def put3 (w : World) (b : Nat) (x : PA.En) : World := ((w.setCell ⟨b, 0, none⟩ (.int .u64 (x.f : Int))).setCell ⟨b, 1, none⟩ (.int .u64 (x.l : Int))).setCell ⟨b, 2, none⟩ (.bool x.n)
theorem put3_other {w : World} {b k : Nat} {x : PA.En} (hk : k ≠ b) : (put3 w b x).heap[k]? = w.heap[k]? :=
 (Below.heap_setCell _ _ _ _ hk).trans ((Below.heap_setCell _ _ _ _ hk).trans (Below.heap_setCell _ _ _ _ hk))
theorem put3_size (w : World) (b : Nat) (x : PA.En) : (put3 w b x).heap.size = w.heap.size := by simp [put3, World.setCell]
theorem put3_box {w : World} {b : Nat} {x : PA.En} {u0 u1 u2 : Value} {f : Nat × Nat} (h : w.heap[b]? = some (.cells #[u0, u1, u2] 87 f)) : (put3 w b x).heap[b]? = some (.cells #[.int .u64 (x.f : Int), .int .u64 (x.l : Int), .bool x.n] 87 f) :=
 (U.set_at _ (U.set_at _ (U.set_at _ h))).trans rfl
theorem AutoW.put3 {w : World} {B A b : Nat} {v : Value} {qs : List (PA.Pl × Value)} {x y : PA.En} {cs : Array Value} {f : Nat × Nat} (h : AutoW w B A v qs x) (hb : w.heap[b]? = some (.cells cs 87 f)) : AutoW (put3 w b y) B A v qs x := h.keep fun k hk => put3_other (by
 rintro rfl
 rcases hk with rfl | hk | ⟨q, hq, hk⟩
 · rw [h.box] at hb; cases hb
 · obtain ⟨_, _, cur, hcur⟩ := own_type h.own hk
   rw [hcur] at hb; cases hb
 · obtain ⟨_, _, cur, hcur⟩ := own_type (h.set q hq) hk
   rw [hcur] at hb; cases hb)
theorem PF.put3 {n A b : Nat} {w W : World} {y : PA.En} (h : PF n A w W) (hn : n ≤ w.heap.size) (hb : w.heap.size ≤ b) : PF n A w (put3 W b y) :=
 ⟨h.os, h.tape, h.output, by rw [put3_size]; exact h.size, fun k hk => (put3_other (by omega)).trans (h.low k hk), fun k hk hA h9 => (put3_other (by omega)).trans (h.keep k hk hA h9)⟩
set_option maxRecDepth 100000 in
set_option maxHeartbeats 4000000 in
theorem addPlace_any {w : World} {B A : Nat} {v : Value} {qs : List (PA.Pl × Value)} {x : PA.En} (hA : AutoW w B A v qs x) (sp : Option Addr) (sc : Nat) (s : List U.S.R) (hr : U.RdR w sp s) (hs : s.length ≤ 1000000) (hlen : qs.length < 64) :
   Calls Tryz.prog 63 #[.pointer (some ⟨A, 0, none⟩), .slice sp s.length sc] w fun e W' => e = .returned (encE ⟨2 ^ qs.length, 2 ^ qs.length, false⟩) ∧ (∃ v' vs, AutoW W' B A v' (qs ++ [((s, 0), vs)]) x) ∧ PF B A w W' := by
 have hB : B ≤ w.heap.size := Nat.le_trans hA.le (Nat.le_of_lt (Array.getElem?_eq_some_iff.1 hA.box).1)
 obtain ⟨i0, hi0, hz0, hz1, hz2⟩ := U.info_parts2 info104
 have b1 := al1 w (.cells #[.int .u64 0, .int .u64 0, .bool false] 87)
 have n1 := heap_alloc_new w (.cells #[.int .u64 0, .int .u64 0, .bool false] 87)
 have s1 : (w.alloc (.cells #[.int .u64 0, .int .u64 0, .bool false] 87)).heap.size = w.heap.size + 1 := by simp
 have hA1 := hA.later b1
 have hr1 := hr.later b1
 obtain ⟨ao, cap, rfl⟩ := hA.sl
 have c0 := hA1.cells.1
 have hO := fun W => only_any qs.length hlen W
 unfold encE
 dsimp only
 have hpw : 2 ^ qs.length < 2 ^ 64 := Nat.pow_lt_pow_right (by decide) hlen
 generalize 2 ^ qs.length = it at *
 go_enter Tryz.func63, Tryz.ntmps63
 go_wp2_with fail
 refine (hO _).mono ?_
 rintro e w2 ⟨rfl, rfl⟩
 obtain ⟨X, hX⟩ : ∃ X, w.alloc (.cells #[.int .u64 0, .int .u64 0, .bool false] 87) = X := ⟨_, rfl⟩
 rw [hX] at b1 n1 s1 hA1 hr1 c0 ⊢
 clear hO hX
 have hT : X.heap[A]? = some (.cells #[.slice ao qs.length cap, .int .u64 (x.f : Int), .int .u64 (x.l : Int), .bool x.n] 89) := hA1.box
 have hAl : A < w.heap.size := (Array.getElem?_eq_some_iff.1 hA.box).1
 go_wp2
 refine Rst.start 12 (fun w' => w'.heap[A]? = some (.cells #[.slice ao qs.length cap, .int .u64 (x.f : Int), .int .u64 (x.l : Int), .bool x.n] 89)) (by kernel_rfl) ?_
 refine Rst.take (fun _ _ _ _ _ h => h) 0 _ 12 ((.pointer (some ⟨A, 0, none⟩))) rfl (by kernel_rfl) rfl (by kernel_rfl) (by kernel_rfl) hT (fun w' hw => U.Reg.mv rfl rfl) ?_
 refine Rst.take (fun _ _ _ _ _ h => h) 1 _ 13 ((.pointer (some ⟨A, 0, none⟩))) rfl (by kernel_rfl) rfl (by kernel_rfl) (by kernel_rfl) hT (fun w' hw => U.Reg.mv rfl rfl) ?_
 refine Rst.take (fun _ _ _ _ _ h => h) 2 _ 14 ((.pointer (some ⟨A, 0, none⟩))) rfl (by kernel_rfl) rfl (by kernel_rfl) (by kernel_rfl) hT (fun w' hw => U.Reg.nc rfl rfl) ?_
 refine Rst.take (fun _ _ _ _ _ h => h) 3 _ 15 (.pointer (some ⟨A, 0 + 0, none⟩)) rfl (by kernel_rfl) rfl (by kernel_rfl) (by kernel_rfl) hT (fun w' hw => Reg.faG rfl (.inl ⟨rfl, .inl rfl⟩) rfl) ?_
 refine Rst.take (fun _ _ _ _ _ h => h) 4 _ 16 (.slice ao qs.length cap) rfl (by kernel_rfl) rfl (by kernel_rfl) (by kernel_rfl) hT (fun w' hw => U.Reg.ld1 rfl rfl (by simp [World.cell?, hw]) (Tryz.isAgg84 _)) ?_
 refine Rst.take (fun _ _ _ _ _ h => h) 5 _ 17 (.slice sp s.length sc) rfl (by kernel_rfl) rfl (by kernel_rfl) (by kernel_rfl) hT (fun w' hw => U.Reg.mv rfl rfl) ?_
 refine Rst.call 6 _ 18 97 _ _ #[.slice sp s.length sc] rfl (by kernel_rfl) rfl (by kernel_rfl) (by kernel_rfl) rfl (by kernel_rfl) (by kernel_rfl) (cloneR_any sp sc s hs X.drew hr1) ?_
 rintro e w5 ⟨vs, rfl, ho5, hb5⟩
 obtain ⟨so, scp, hvs, _⟩ := ho5.rd
 have hb5' : Below X.heap.size X w5 := ⟨hb5.os, hb5.tape, hb5.output, hb5.size, hb5.block⟩
 have hA5 := hA1.later hb5'
 have hT5 := hA5.box
 refine ⟨_, rfl, hT5, ?_⟩
 refine Rst.only 7 _ 19 rfl (by kernel_rfl) rfl (by kernel_rfl) (by kernel_rfl) ⟨.agg #[vs, .int .u64 0], _, Reg.bldP rfl rfl hvs, hT5, ?_⟩
 have a6 := al1 w5 (.cells #[vs, .int .u64 0] 104)
 have hA6 := hA5.later a6
 refine Rst.only 8 _ 20 rfl (by kernel_rfl) rfl (by kernel_rfl) (by kernel_rfl) ⟨.slice (some ⟨w5.heap.size, 0, none⟩) 1 1, w5.alloc (.cells #[vs, .int .u64 0] 104), U.Reg.bs (vs := #[(0, .agg #[vs, .int .u64 0])]) (cs := #[vs, .int .u64 0]) i0 (.agg #[.slice none 0 0, .int .u64 0]) rfl (by kernel_rfl) Tryz.underlying84 hi0 hz0 (by rw [hz1]; decide) (by rw [hz1]; decide) (by rw [hz1]; kernel_rfl), hA6.box, ?_⟩
 have z6 : (w5.alloc (.cells #[vs, .int .u64 0] 104)).heap.size = w5.heap.size + 1 := by simp
 have hnew : ∀ j u, [vs, .int .u64 0][j]? = some u → (w5.alloc (.cells #[vs, .int .u64 0] 104)).cell? ((⟨w5.heap.size, 0, none⟩ : Addr).add j) = some u := by
   intro j u hj
   rw [Addr.add_mid, Nat.zero_add]
   have := heap_alloc_new w5 (.cells #[vs, .int .u64 0] 104)
   simp only [World.cell?, this]
   match j, hj with
   | 0, hj => simpa using hj
   | 1, hj => simpa using hj
 have hz5 : X.heap.size ≤ w5.heap.size := hb5'.size
 obtain ⟨w6, hw6⟩ : ∃ w6, w5.alloc (.cells #[vs, .int .u64 0] 104) = w6 := ⟨_, rfl⟩
 rw [hw6] at a6 hA6 hnew z6 ⊢
 obtain ⟨v', w7, hrun, hown, hgrow, _, hat⟩ := run_append_own_at (P := Tryz.prog) w6 B 84 84 104 i0 _ 2 32 Tryz.underlying84 hi0 hz0 hz1 hz2 rfl (by decide) (.slice ao qs.length cap) qs.length (cP qs) hA6.own ⟨w5.heap.size, 0, none⟩ 1 1 [vs, .int .u64 0] rfl hnew (by intro u hu; simp at hu; rcases hu with rfl | rfl <;> simp [hvs, Value.oneCell']) (by unfold maxLen; omega) (by omega) (by omega)
 have hgt : ∀ (k : Nat) (cs : Array Value) (t : TypeId) (f : Nat × Nat), w6.heap[k]? = some (Obj.cells cs t f) → t ≠ 104 → w7.heap[k]? = some (Obj.cells cs t f) := fun k cs t f hk ht => (hgrow.block k (Array.getElem?_eq_some_iff.1 hk).1 (fun e => by
   obtain ⟨_, _, cur, hcur⟩ := own_type hA6.own e.symm
   rw [hk] at hcur
   cases hcur
   exact ht rfl)).trans hk
 have hT7 := hgt A _ _ _ hA6.box (by decide)
 obtain ⟨g', cap', rfl⟩ : ∃ g' cap', v' = .slice (some ⟨g', 0, none⟩) (qs.length + 1) cap' := by
   obtain ⟨_, ⟨_, h⟩ | ⟨g, cap, cur, e, _⟩⟩ := hown
   · omega
   · exact ⟨g, cap, e⟩
 refine Rst.only 9 _ 21 rfl (by kernel_rfl) rfl (by kernel_rfl) (by kernel_rfl) ⟨.slice (some ⟨g', 0, none⟩) (qs.length + 1) cap', w7, Reg.app rfl rfl rfl hrun, hT7, ?_⟩
 refine Rst.only 10 _ 22 rfl (by kernel_rfl) rfl (by kernel_rfl) (by kernel_rfl) ⟨.pointer (some ⟨A, 0, none⟩), _, U.Reg.nc rfl rfl, hT7, ?_⟩
 refine Rst.only 11 _ 23 rfl (by kernel_rfl) rfl (by kernel_rfl) (by kernel_rfl) ⟨.pointer (some ⟨A, 0 + 0, none⟩), _, Reg.faG rfl (.inl ⟨rfl, .inl rfl⟩) rfl, hT7, ?_⟩
 refine Rst.last _ rfl (by kernel_rfl) rfl (by kernel_rfl) (by kernel_rfl) ⟨w7.setCell ⟨A, 0, none⟩ (.slice (some ⟨g', 0, none⟩) (qs.length + 1) cap'), U.Reg.st1 rfl rfl rfl (by simp [World.cell?, hT7]; rfl) (U.frozen_at hT7) (.inr ⟨_, _, _, rfl⟩) (Tryz.sizeOf84 _), ?_⟩
 refine Rst.done (by kernel_rfl) ?_
 simp only [Reg.ov, Act.put, List.setIfInBounds_toArray, List.set_cons_succ, List.set_cons_zero]
 have hne : ∀ k, k ≠ A → (w7.setCell ⟨A, 0, none⟩ (.slice (some ⟨g', 0, none⟩) (qs.length + 1) cap')).heap[k]? = w7.heap[k]? := fun k hk => Below.heap_setCell _ _ _ _ hk
 have hbox8 := U.set_at (w := w7) (b := A) (j := 0) (.slice (some ⟨g', 0, none⟩) (qs.length + 1) cap') hT7
 have n8 := (hne w.heap.size (by omega)).trans (hgt w.heap.size _ _ _ ((a6.block _ (by omega)).trans ((hb5'.block _ (by omega)).trans n1)) (by decide))
 have hown8 : U.OwnR (w7.setCell ⟨A, 0, none⟩ (.slice (some ⟨g', 0, none⟩) (qs.length + 1) cap')) B 140 vs s := by
   refine own_same (ho5.low (by show B ≤ X.heap.size; omega)) fun k hk => ?_
   obtain ⟨hk1, hk2, cur, hcur⟩ := own_type ho5 hk
   rw [hcur]
   refine (hne k ?_).trans (hgt k _ _ _ ((a6.block k hk2).trans hcur) (by decide))
   rintro rfl
   rw [hT5] at hcur
   cases hcur
 have hA8 : AutoW (w7.setCell ⟨A, 0, none⟩ (.slice (some ⟨g', 0, none⟩) (qs.length + 1) cap')) B A (.slice (some ⟨g', 0, none⟩) (qs.length + 1) cap') (qs ++ [((s, 0), vs)]) x := by
   refine ⟨hbox8, ?_, ?_, hA.le⟩
   · rw [List.length_append, cP_append]
     refine own_same hown fun k hk => hne k ?_
     rintro rfl
     obtain ⟨_, _, cur, hcur⟩ := own_type hown hk
     rw [hT7] at hcur
     cases hcur
   · intro q hq
     rcases List.mem_append.1 hq with h | h
     · refine own_same (hA6.set q h) fun k hk => ?_
       obtain ⟨_, _, cur, hcur⟩ := own_type (hA6.set q h) hk
       rw [hcur]
       refine (hne k ?_).trans (hgt k _ _ _ hcur (by decide))
       rintro rfl
       rw [hA6.box] at hcur
       cases hcur
     · rw [List.mem_singleton.1 h]
       exact hown8
 have hP8 : PF B A w (w7.setCell ⟨A, 0, none⟩ (.slice (some ⟨g', 0, none⟩) (qs.length + 1) cap')) := by
   have hX6 : Below w.heap.size w w6 := nx b1 (nx hb5' a6)
   refine (PF.of hX6 hB).trans ⟨hgrow.os, hgrow.tape, hgrow.output, by simp [World.setCell]; exact hgrow.size, fun k hk => (hne k (by have := hA.le; omega)).trans (hgrow.block k (by have := hX6.size; omega) (fun e => by have := (own_type hA6.own e.symm).1; omega)), fun k hk hkA h9 => (hne k hkA).trans (hgrow.block k hk (fun e => h9 (by obtain ⟨_, _, cur, hcur⟩ := own_type hA6.own e.symm; exact ⟨_, _, hcur⟩)))⟩
 obtain ⟨w8, hw8⟩ : ∃ w8, w7.setCell ⟨A, 0, none⟩ (.slice (some ⟨g', 0, none⟩) (qs.length + 1) cap') = w8 := ⟨_, rfl⟩
 rw [hw8] at hA8 hP8 n8 ⊢
 have HA := hide hA8
 have HP := hide hP8
 have q0 : w8.cell? ⟨w.heap.size, 0, none⟩ = some (.int .u64 0) := by simp [World.cell?, n8]
 have q1 : w8.cell? ⟨w.heap.size, 1, none⟩ = some (.int .u64 0) := by simp [World.cell?, n8]
 have q2 : w8.cell? ⟨w.heap.size, 2, none⟩ = some (.bool false) := by simp [World.cell?, n8]
 have f0 : w8.frozen? ⟨w.heap.size, 0, none⟩ = false := by simp [World.frozen?, n8]
 have f1 : w8.frozen? ⟨w.heap.size, 1, none⟩ = false := by simp [World.frozen?, n8]
 have f2 : w8.frozen? ⟨w.heap.size, 2, none⟩ = false := by simp [World.frozen?, n8]
 have hlt8 := (Array.getElem?_eq_some_iff.1 n8).1
 clear hA hA1 hA5 hA6 hT hT5 hT7 hrun hown hgrow hat hgt hne hbox8 hown8 hA8 hP8 hnew c0 ho5 hb5 hb5' hw6 hw8 hr hr1 n1 b1 a6 s1 z6 hz5
 go_wp2
 exact bodyPost_ret (v := .agg #[.int .u64 (it : Int), .int .u64 (it : Int), .bool false]) (by simp [results, Tryz.results63, go_sem, q0, q1, q2]) rfl ⟨rfl, ⟨_, _, HA.out.put3 (y := ⟨it, it, false⟩) n8⟩, HP.out.put3 (y := ⟨it, it, false⟩) hB (Nat.le_refl _)⟩
end Go.Proofs.YtgngaldoemopjaaGreatDoor
namespace Go.Proofs.YtgngaldoemopjaaGreatDoor
open Go.RowKit Go.Shelf
namespace Iv
variable {P : Program} {ops : Array Oper} {Q : Exit → Act → World → Prop}
def left (L : Array Bool) : Nat := L.toList.countP fun b => !b
theorem get_of {L : Array Bool} {i : Nat} (h : L.getD i true = false) : ∃ hi : i < L.toList.length, L.toList[i] = false := by
 by_cases hi : i < L.size
 · exact ⟨by simpa using hi, by simpa [Array.getD, hi] using h⟩
 · simp [Array.getD, hi] at h
theorem left_set {L : Array Bool} {i : Nat} (h : L.getD i true = false) : left (L.setIfInBounds i true) + 1 = left L := by
 obtain ⟨hi, h2⟩ := get_of h
 have hpos : 0 < L.toList.countP fun b => !b := List.countP_pos_iff.2 ⟨_, List.getElem_mem hi, by rw [h2]; rfl⟩
 unfold left
 rw [Array.toList_setIfInBounds, List.countP_set hi, h2]
 simp only [Bool.not_false, if_true, Bool.not_true]
 simp only [Bool.false_eq_true, if_false]
 omega
theorem any_of (I : Array Bool → Act → World → Prop) (hI : ∀ L a w i, I L a w → i ∈ Region.ready .any ops L → wpOp P ops Q i (I (L.setIfInBounds i true)) a w)
   (hd : ∀ L a w, I L a w → Region.ready .any ops L = [] → Q .normal a w) : ∀ (fuel : Nat) (L : Array Bool) (a : Act) (w : World), left L ≤ fuel → I L a w → wpAny P .any ops Q fuel L a w
 | 0, L, a, w, hf, h => by
   have hr : Region.ready .any ops L = [] := by
     cases hc : Region.ready .any ops L with
     | nil => rfl
     | cons i l =>
       have hi : i ∈ Region.ready .any ops L := by rw [hc]; exact List.mem_cons_self
       have := left_set (mem_ready.1 hi).1
       omega
   exact ⟨hr, hd L a w h hr⟩
 | fuel + 1, L, a, w, hf, h => ⟨hd L a w h, fun i hi => wpOp_mono (fun a' w' h' => any_of I hI hd fuel _ a' w' (by have := left_set (mem_ready.1 hi).1; omega) h') (hI L a w i h hi)⟩
def back (ops : Array Oper) : Bool := (List.range ops.size).all fun i => match ops[i]? with
 | some o => o.after.toList.all fun e => !Region.binds .any e || Nat.blt e.on i
 | none => true
theorem all_of (hb : back ops = true) {L : Array Bool} (hs : L.size = ops.size) (hr : Region.ready .any ops L = []) : ∀ n i, i < n → i < ops.size → L.getD i false = true
 | 0, _, h, _ => absurd h (Nat.not_lt_zero _)
 | n + 1, i, h, hi => by
   cases hc : L.getD i true with
   | true =>
     have : i < L.size := by omega
     simpa [Array.getD, this] using hc
   | false =>
     have ho : ops[i]? = some ops[i] := Array.getElem?_eq_getElem hi
     have hbi := List.all_eq_true.1 hb i (List.mem_range.2 hi)
     rw [ho] at hbi
     have : i ∈ Region.ready .any ops L := mem_ready.2 ⟨hc, ops[i], ho, fun e he hbd => by
       have h1 := List.all_eq_true.1 hbi e (by simpa using he)
       rw [hbd] at h1
       have h2 : e.on < i := by simpa [Nat.blt_eq] using h1
       exact all_of hb hs hr n e.on (by omega) (by omega)⟩
     rw [hr] at this
     cases this
theorem start {id : Nat} {a : Act} {w : World} (I : Array Bool → Act → World → Prop) (hm : P.follows .mixedOrders = true) (hI : ∀ L a w i, I L a w → i ∈ Region.ready .any ops L → wpOp P ops Q i (I (L.setIfInBounds i true)) a w)
   (hb : back ops = true) (hs : ∀ L a w, I L a w → L.size = ops.size) (hd : ∀ L a w, I L a w → (∀ i, i < ops.size → L.getD i false = true) → Q .normal a w) (h : I (Array.replicate ops.size false) a w.drew) : (Code.region id ops true).wp P Q a w :=
 wp_region_any hm (any_of I hI (fun L a w hi hr => hd L a w hi fun i hh => all_of hb (hs L a w hi) hr ops.size i hh hh) _ _ _ _ (by
   unfold left
   refine Nat.le_trans (List.countP_le_length) ?_
   simp) h)
theorem val {i : Nat} {K : Act → World → Prop} {a : Act} {w w' : World} {o : Oper} {v : Value} (ho : ops[i]? = some o) (hg : o.guard = none) (hr : (execOp a.eval o).run P w = .ok (.value v) w') (h : K (a.put o.dst v) w') : wpOp P ops Q i K a w := by
 unfold wpOp
 simp only [ho]
 rw [if_pos (by unfold Region.wanted; rw [hg])]
 refine .inl ?_
 unfold Oper.wp
 rw [hr]
 exact h
theorem skip {i : Nat} {K : Act → World → Prop} {a : Act} {w w' : World} {o : Oper} (ho : ops[i]? = some o) (hg : o.guard = none) (hr : (execOp a.eval o).run P w = .ok .skip w') (h : K (a.put o.dst undef) w') : wpOp P ops Q i K a w := by
 unfold wpOp
 simp only [ho]
 rw [if_pos (by unfold Region.wanted; rw [hg])]
 refine .inl ?_
 unfold Oper.wp
 rw [hr]
 exact h
theorem call {i : Nat} {K : Act → World → Prop} {a : Act} {w : World} {o : Oper} {f : Nat} {xs : Array Operand} {ats : Array TypeId} {vs : Array Value} {R : Ending → World → Prop} (ho : ops[i]? = some o) (hg : o.guard = none) (hop : o.op = .call { callee := .value (.func f), args := xs, argTypes := ats })
   (hvs : #[] ++ xs.map a.eval ++ #[] = vs) (hent : (callFunc f vs).run P w = .ok (.enter f vs) w) (hc : Calls P f vs w R) (hR : ∀ e w', R e w' → ∃ v, e = .returned v ∧ K (a.put o.dst v) w') : wpOp P ops Q i K a w := by
 unfold wpOp
 simp only [ho]
 rw [if_pos (by unfold Region.wanted; rw [hg])]
 refine .inl ?_
 unfold Oper.wp
 have he : (execOp a.eval o).run P w = .ok (.enter f vs) w := by
   obtain ⟨dst, op, type, pos, after, guard⟩ := o
   simp only at hop
   subst hop
   show (callFunc f (#[] ++ xs.map a.eval ++ #[])).run P w = _
   rw [hvs]
   exact hent
 rw [he]
 simp only [Oper.upon]
 refine hc.mono fun e w' hr' => ?_
 obtain ⟨v, rfl, hg⟩ := hR e w' hr'
 exact hg
def upd (f : Nat → Value) (i : Nat) (v : Value) : Nat → Value := fun j => if j = i then v else f j
structure Sl (a0 : Act) (ds : List (Option Nat)) (L : Array Bool) (f : Nat → Value) (a : Act) : Prop where
 defers : a.defers = a0.defers
 size : a.tmps.size = a0.tmps.size
 out : ∀ d, some d ∉ ds → a.tmps.getD d undef = a0.tmps.getD d undef
 inn : ∀ i d, ds[i]? = some (some d) → L.getD i false = true → a.tmps.getD d undef = f i
theorem Sl.start (a0 : Act) (ds : List (Option Nat)) (n : Nat) (f : Nat → Value) : Sl a0 ds (Array.replicate n false) f a0 :=
 ⟨rfl, rfl, fun _ _ => rfl, fun i d _ h => by
   rw [Array.getD_eq_getD_getElem?, Array.getElem?_replicate] at h
   split at h <;> cases h⟩
theorem uniq {ds : List (Option Nat)} (hn : (ds.filterMap id).Nodup) : ∀ {i j d : Nat}, ds[i]? = some (some d) → ds[j]? = some (some d) → i = j := by
 induction ds with
 | nil => intro i j d h; simp at h
 | cons x xs ih =>
   intro i j d h1 h2
   cases x with
   | none =>
     cases i with
     | zero => simp at h1
     | succ i =>
       cases j with
       | zero => simp at h2
       | succ j => exact congrArg (· + 1) (ih (by simpa using hn) (by simpa using h1) (by simpa using h2))
   | some y =>
     have hn' : y ∉ xs.filterMap id ∧ (xs.filterMap id).Nodup := by simpa using hn
     have hno : ∀ k, xs[k]? ≠ some (some y) := fun k hk => hn'.1 (List.mem_filterMap.2 ⟨some y, List.mem_of_getElem? hk, rfl⟩)
     cases i with
     | zero =>
       obtain rfl : y = d := by simpa using h1
       cases j with
       | zero => rfl
       | succ j => exact absurd (by simpa using h2) (hno j)
     | succ i =>
       cases j with
       | zero =>
         obtain rfl : y = d := by simpa using h2
         exact absurd (by simpa using h1) (hno i)
       | succ j => exact congrArg (· + 1) (ih hn'.2 (by simpa using h1) (by simpa using h2))
theorem Sl.put {a0 : Act} {ds : List (Option Nat)} {L : Array Bool} {f : Nat → Value} {a : Act} (h : Sl a0 ds L f a) (hn : (ds.filterMap id).Nodup) {i d : Nat} (hi : ds[i]? = some (some d)) (hd : d < a0.tmps.size) (v : Value) : Sl a0 ds (L.setIfInBounds i true) (upd f i v) (a.put (some d) v) := by
 refine ⟨h.defers, by simp only [Act.put, Array.size_setIfInBounds]; exact h.size, fun e he => ?_, fun j e hj hl => ?_⟩
 · have hne : d ≠ e := fun e' => he (e' ▸ List.mem_of_getElem? hi)
   rw [← h.out e he]
   simp only [Act.put, Array.getD_eq_getD_getElem?, Array.getElem?_setIfInBounds_ne hne]
 · by_cases hji : j = i
   · subst hji
     rw [hi] at hj
     cases hj
     have hd' : d < a.tmps.size := by rw [h.size]; exact hd
     simp [Act.put, upd, Array.getD_eq_getD_getElem?, hd']
   · have hne : d ≠ e := fun e' => hji (uniq hn hj (e' ▸ hi))
     rw [getD_set_ne false (Ne.symm hji)] at hl
     have := h.inn j e hj hl
     unfold upd
     rw [if_neg hji, ← this]
     simp only [Act.put, Array.getD_eq_getD_getElem?, Array.getElem?_setIfInBounds_ne hne]
theorem Sl.skip {a0 : Act} {ds : List (Option Nat)} {L : Array Bool} {f : Nat → Value} {a : Act} (h : Sl a0 ds L f a) {i : Nat} (hi : ds[i]? = some none) : Sl a0 ds (L.setIfInBounds i true) f a :=
 ⟨h.defers, h.size, h.out, fun j e hj hl => h.inn j e hj (by rw [getD_set_ne false (fun e' => by subst e'; rw [hi] at hj; cases hj)] at hl; exact hl)⟩
theorem look_of {a0 : Act} {g : Nat → Value} : ∀ (l : List (Nat × Value)) (d : Nat), (∀ p ∈ l, g p.1 = p.2) → ((∀ p ∈ l, p.1 ≠ d) → g d = a0.tmps.getD d undef) → g d = Reg.look a0 l d
 | [], d, _, h => h (fun p hp => by cases hp)
 | p :: l, d, h1, h2 => by
   unfold Reg.look
   by_cases e : p.1 = d
   · subst e
     rw [show Nat.beq p.1 p.1 = true from Nat.beq_refl _, cond_true]
     exact h1 p List.mem_cons_self
   · have hne : Nat.beq p.1 d = false := by
       cases hb : Nat.beq p.1 d with
       | true => exact absurd (Nat.eq_of_beq_eq_true hb) e
       | false => rfl
     rw [hne, cond_false]
     exact look_of l d (fun q hq => h1 q (List.mem_cons_of_mem _ hq)) fun h => h2 fun q hq => by
       rcases List.mem_cons.1 hq with rfl | hq
       · exact e
       · exact h q hq
theorem Sl.lit {a0 : Act} {ds : List (Option Nat)} {L : Array Bool} {f : Nat → Value} {a : Act} (h : Sl a0 ds L f a) (l : List (Nat × Value)) (hb : Reg.inB a0 l = true) (h1 : ∀ p ∈ l, a.tmps.getD p.1 undef = p.2) (h2 : ∀ d, (∀ p ∈ l, p.1 ≠ d) → some d ∉ ds) : a = Reg.ov a0 l := by
 have hs : a.tmps = (Reg.ov a0 l).tmps := by
   refine Array.ext (by rw [h.size, Reg.ov_size]) fun i hi hi' => ?_
   have := look_of (a0 := a0) (g := fun d => a.tmps.getD d undef) l i h1 fun hd => h.out i (h2 i hd)
   rw [← Reg.ov_look a0 i l hb] at this
   simpa [Array.getD, hi, hi'] using this
 have hd : a.defers = (Reg.ov a0 l).defers := by rw [h.defers, Reg.ov_defers]
 cases a
 generalize Reg.ov a0 l = b at *
 cases b
 simp_all
end Iv
end Go.Proofs.YtgngaldoemopjaaGreatDoor
