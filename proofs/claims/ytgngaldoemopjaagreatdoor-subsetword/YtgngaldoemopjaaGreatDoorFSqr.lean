/- Joined: JG Spn Sqr. -/
import Derived.Shelf.SlGeneric
import Derived.Shelf.SlLaysF0
import Derived.Test.YtgngaldoemopjaaGreatDoorProg
import Derived.Shelf.SlSortCmp.NoneTotal
import Derived.Test.YtgngaldoemopjaaGreatDoorFJB
import Derived.Test.YtgngaldoemopjaaGreatDoorFPsp
import Derived.BigQuiet
import Derived.Test.YtgngaldoemopjaaGreatDoorFLf2
import Derived.Test.YtgngaldoemopjaaGreatDoorFJF
namespace Go.Proofs.YtgngaldoemopjaaGreatDoor.U
open Go.Shelf
def sortIv_ren : Go.Shelf.Ren := ⟨fun | 6 => 216 | 15 => 96 | 14 => 231 | 28 => 128 | 29 => 129 | 20 => 239 | 21 => 240 | 22 => 241 | 23 => 242 | 24 => 243 | 25 => 244 | 26 => 245 | 27 => 246 | 46 => 249 | 47 => 154 | 48 => 155 | 49 => 250 | 50 => 251 | 57 => 253 | n => n, fun | 22 => 233 | 24 => 160 | 25 => 271 | 3 => 3 | 39 => 61 | 0 => 0 | 53 => 212 | 55 => 35 | 4 => 4 | 46 => 205 | 45 => 204 | 50 => 120 | 5 => 5 | 9 => 9 | 66 => 226 | 70 => 229 | 76 => 249 | 77 => 250 | n => n, fun | n => n⟩
theorem sortIv : Go.Proofs.SlLaysF0.n6 Tryz.prog sortIv_ren := {
 mixed := by kernel_rfl
 f6 := ⟨Tryz.f216.name, by decide, Tryz.func216.trans (congrArg some (by kernel_rfl))⟩
 f14 := ⟨Tryz.f231.name, by decide, Tryz.func231.trans (congrArg some (by kernel_rfl))⟩
 f15 := Tryz.func96.trans (congrArg some (by kernel_rfl))
 f20 := ⟨Tryz.f239.name, by decide, Tryz.func239.trans (congrArg some (by kernel_rfl))⟩
 f21 := ⟨Tryz.f240.name, by decide, Tryz.func240.trans (congrArg some (by kernel_rfl))⟩
 f22 := ⟨Tryz.f241.name, by decide, Tryz.func241.trans (congrArg some (by kernel_rfl))⟩
 f23 := ⟨Tryz.f242.name, by decide, Tryz.func242.trans (congrArg some (by kernel_rfl))⟩
 f24 := ⟨Tryz.f243.name, by decide, Tryz.func243.trans (congrArg some (by kernel_rfl))⟩
 f25 := ⟨Tryz.f244.name, by decide, Tryz.func244.trans (congrArg some (by kernel_rfl))⟩
 f26 := ⟨Tryz.f245.name, by decide, Tryz.func245.trans (congrArg some (by kernel_rfl))⟩
 f27 := ⟨Tryz.f246.name, by decide, Tryz.func246.trans (congrArg some (by kernel_rfl))⟩
 f28 := Tryz.func128.trans (congrArg some (by kernel_rfl))
 f29 := Tryz.func129.trans (congrArg some (by kernel_rfl))
 f46 := ⟨Tryz.f249.name, by decide, Tryz.func249.trans (congrArg some (by kernel_rfl))⟩
 f47 := Tryz.func154.trans (congrArg some (by kernel_rfl))
 f48 := Tryz.func155.trans (congrArg some (by kernel_rfl))
 f49 := ⟨Tryz.f250.name, by decide, Tryz.func250.trans (congrArg some (by kernel_rfl))⟩
 f50 := ⟨Tryz.f251.name, by decide, Tryz.func251.trans (congrArg some (by kernel_rfl))⟩
 f57 := ⟨Tryz.f253.name, by decide, Tryz.func253.trans (congrArg some (by kernel_rfl))⟩
 t0 := Tryz.underlying0
 a0 := Tryz.isAgg0
 z0 := Tryz.sizeOf0
 v0 := Tryz.zeroValue0
 t3 := Tryz.underlying3
 a3 := Tryz.isAgg3
 z3 := Tryz.sizeOf3
 v3 := Tryz.zeroValue3
 t4 := Tryz.underlying4
 a4 := Tryz.isAgg4
 z4 := Tryz.sizeOf4
 v4 := Tryz.zeroValue4
 t5 := Tryz.underlying5
 a5 := Tryz.isAgg5
 z5 := Tryz.sizeOf5
 v5 := Tryz.zeroValue5
 t9 := Tryz.underlying9
 a9 := Tryz.isAgg9
 z9 := Tryz.sizeOf9
 v9 := Tryz.zeroValue9
 t22 := Tryz.underlying233
 a22 := Tryz.isAgg233
 z22 := Tryz.sizeOf233
 v22 := Tryz.zeroValue233
 t25 := Tryz.underlying271
 a25 := Tryz.isAgg271
 z25 := Tryz.sizeOf271
 v25 := Tryz.zeroValue271
 t39 := Tryz.underlying61
 a39 := Tryz.isAgg61
 z39 := Tryz.sizeOf61
 v39 := Tryz.zeroValue61
 t45 := Tryz.underlying204
 a45 := Tryz.isAgg204
 z45 := Tryz.sizeOf204
 v45 := Tryz.zeroValue204
 t46 := Tryz.underlying205
 a46 := Tryz.isAgg205
 z46 := Tryz.sizeOf205
 v46 := Tryz.zeroValue205
 t50 := Tryz.underlying120
 a50 := Tryz.isAgg120
 z50 := Tryz.sizeOf120
 v50 := Tryz.zeroValue120
 t53 := Tryz.underlying212
 a53 := Tryz.isAgg212
 z53 := Tryz.sizeOf212
 v53 := Tryz.zeroValue212
 t55 := Tryz.underlying35
 a55 := Tryz.isAgg35
 z55 := Tryz.sizeOf35
 v55 := Tryz.zeroValue35
 t66 := Tryz.underlying226
 a66 := Tryz.isAgg226
 z66 := Tryz.sizeOf226
 v66 := Tryz.zeroValue226
 t70 := Tryz.underlying229
 a70 := Tryz.isAgg229
 z70 := Tryz.sizeOf229
 v70 := Tryz.zeroValue229
 t76 := Tryz.underlying249
 a76 := Tryz.isAgg249
 z76 := Tryz.sizeOf249
 v76 := Tryz.zeroValue249
 t77 := Tryz.underlying250
 a77 := Tryz.isAgg250
 z77 := Tryz.sizeOf250
 v77 := Tryz.zeroValue250 }
end Go.Proofs.YtgngaldoemopjaaGreatDoor.U
namespace Go.Proofs.YtgngaldoemopjaaGreatDoor.U
open Go.RowKit Go.Shelf Go.Sort
def encR (x : S.R) : List Value := [.int .i32 x.1, .int .i32 x.2]
def cf (x y : S.R) : Int := if x.1 < y.1 then -1 else if y.1 < x.1 then 1 else 0
theorem lt_cf (x y : S.R) : ltOf cf x y = decide (x.1 < y.1) := by
 unfold ltOf cf
 by_cases h1 : x.1 < y.1
 · simp [h1]
 · by_cases h2 : y.1 < x.1 <;> simp [h1, h2]
theorem swo : SWO (ltOf cf) where
 irrefl x := by rw [lt_cf]; simp
 trans x y z h1 h2 := by rw [lt_cf] at *; simp at *; omega
 ntrans x y z h1 h2 := by rw [lt_cf] at *; simp at *; omega
set_option maxHeartbeats 1000000 in
theorem closure_any (x y : S.R) (W : World) : Calls Tryz.prog 196 #[.agg #[.int .i32 x.1, .int .i32 x.2], .agg #[.int .i32 y.1, .int .i32 y.2]] W fun e w' => e = .returned (.int .i64 (cf x y)) ∧ ∃ q os', w' = grow (W.drewN q) os' := by
 have hcon := fun W' => cmp_any x.1 y.1 W'
 rw [show (if x.1 < y.1 then (-1 : Int) else if y.1 < x.1 then 1 else 0) = cf x y from rfl] at hcon
 generalize cf x y = r at hcon ⊢
 go_enter Tryz.func196, Tryz.ntmps196
 go_wp2_with (go_at_call 197; refine (hcon _).mono ?_; rintro e w' ⟨rfl, rfl⟩)
 go_ret
 exact ⟨rfl, 0, _, by rw [alloc_eq_grow, alloc_eq_grow, grow_grow]; rfl⟩
theorem cmpLays (blk off size : Nat) (w : World) : CmpLays Tryz.prog 196 #[] encR 2 cf blk off size w :=
 fun _ _ _ _ x y => closure_any x y _
theorem below_sort {w : World} {B g n : Nat} {d : Array S.R} {os : Array Obj} (hg : B ≤ g) (hB : B ≤ w.heap.size) : RowKit.Below B w (sortWorldK encR 2 w g 0 n d os) := by
 have h : RowKit.Below B w (putRow id (Sort.ahead w n) g 0 (flatK encR 2 d)) := ⟨rfl, rfl, rfl, by simp [putRow, mapBlock, Sort.ahead], fun k hk => by
   simp [putRow, mapBlock, Sort.ahead, Array.getElem?_modify, show g ≠ k by omega]⟩
 refine ⟨h.os, h.tape, h.output, ?_, fun k hk => ?_⟩
 · have := h.size
   unfold sortWorldK putRowK
   rw [size_grow]
   omega
 · unfold sortWorldK putRowK
   rw [heap_grow_old _ _ (by have := h.size; omega)]
   exact h.block k hk
theorem enc_at (d : Array S.R) (i : Nat) (h : i < d.size) : (encR d[i]!)[0]! = .int .i32 d[i].1 ∧ (encR d[i]!)[1]! = .int .i32 d[i].2 := by
 rw [getElem!_pos d i h]
 exact ⟨rfl, rfl⟩
theorem holds_own {w : World} {B g cap : Nat} {zs : List S.R} (h : OwnR w B 160 (.slice (some ⟨g, 0, none⟩) zs.length cap) zs) : HoldsK encR 2 w g 0 zs.toArray := by
 have hrd := h.rd
 obtain ⟨ao, c, e, _, _, hr⟩ := hrd
 cases e
 obtain ⟨_, ⟨e, _⟩ | ⟨g', cap', cur, e, _, hgb, _⟩⟩ := h
 · cases e
 cases e
 intro j hj
 rw [size_flatK] at hj
 have hj2 : j / 2 < zs.length := by simp at hj; omega
 obtain ⟨b, off, e, h1, h2⟩ := hr (j / 2) hj2
 cases e
 have he := enc_at zs.toArray (j / 2) (by simpa using hj2)
 rw [get_flatK _ _ _ _ hj]
 refine ⟨?_, by simp [World.frozen?, hgb]⟩
 rcases Nat.mod_two_eq_zero_or_one j with hm | hm
 · rw [hm, show (0 : Nat) + j = 0 + j / 2 * 2 by omega, h1]
   exact congrArg some he.1.symm
 · rw [hm, show (0 : Nat) + j = 0 + j / 2 * 2 + 1 by omega, h2]
   exact congrArg some he.2.symm
theorem rd_holds {w : World} {g : Nat} {d : Array S.R} (h : HoldsK encR 2 w g 0 d) : RdR w (some ⟨g, 0, none⟩) d.toList := by
 intro i hi
 have hi' : i < d.size := by simpa using hi
 have he := enc_at d i hi'
 have h0 := (h.cell (i := i) (c := 0) hi' (by omega)).1
 have h1 := (h.cell (i := i) (c := 1) hi' (by omega)).1
 rw [he.1] at h0
 rw [he.2] at h1
 exact ⟨g, 0, rfl, by simpa using h0, by simpa using h1⟩
theorem perm_of {d d' : Array S.R} (h : PermIn 0 d.size d d') : d'.toList.Perm d.toList := by
 have h1 := h.1
 have h2 := h.2.2
 rw [Array.extract_size] at h2
 rw [← h1, Array.extract_size] at h2
 exact h2
theorem sorted_of {d : Array S.R} {n : Nat} (hn : n = d.size) (h : SortedIn (ltOf cf) 0 n d) : d.toList.Pairwise fun a b => a.1 ≤ b.1 := by
 subst hn
 rw [List.pairwise_iff_getElem]
 intro i j hi hj hij
 have := h i j (Nat.zero_le _) hij (by simpa using hj)
 rw [lt_cf, getElem!_pos d j (by simpa using hj), getElem!_pos d i (by simpa using hi)] at this
 simp at this
 simpa using this
set_option maxHeartbeats 1000000 in
theorem sorted_any (v0 : Value) (zs : List S.R) (hl : zs.length ≤ 1000000) (w : World) (hit : Iter v0 zs w) :
   Calls Tryz.prog 195 #[v0, .func (.func 196) #[] #[]] w fun e W' => ∃ ao cap d, e = .returned (.slice ao d.length cap) ∧ RdR W' ao d ∧ d.Perm zs ∧ d.Pairwise (fun a b => a.1 ≤ b.1) ∧ RowKit.Below w.heap.size w W' := by
 have h := collect_any v0 zs hl w hit
 obtain ⟨gf, lb, rfl, _, _⟩ := hit
 go_enter Tryz.func195, Tryz.ntmps195
 go_wp2_with fail
 refine h.mono ?_
 rintro e w1 ⟨u, rfl, ho, hb⟩
 obtain ⟨ao, cap, rfl, hcap, hnil, hrd⟩ := ho.rd
 cases zs with
 | nil =>
   have hs := AnyF.slices_SortFunc_none (P := Tryz.prog) sortIv ao cap (.func (.func 196) #[] #[]) w1
   change Calls Tryz.prog 216 _ _ _ at hs
   clear hrd ho
   go_wp2_with (go_at_call 216; refine hs.mono ?_; rintro e w2 ⟨rfl, rfl⟩)
   go_ret
   exact ⟨ao, cap, [], rfl, rdr_nil _ _, List.Perm.refl _, List.Pairwise.nil, hb⟩
 | cons z zs =>
   obtain ⟨b, off, rfl, _, _⟩ := hrd 0 (by simp)
   have ho' := ho
   obtain ⟨_, ⟨e, _⟩ | ⟨g', cap', cur, e, hB, hgb, _⟩⟩ := ho'
   · cases e
   cases e
   have hs := AnyQ.slices_SortFunc (P := Tryz.prog) sortIv 2 Tryz.isAgg160 Tryz.sizeOf160 encR (fun _ => rfl) (fun x v hv => by simp [encR] at hv; rcases hv with rfl | rfl <;> rfl) cf swo 196 #[] b 0 cap (z :: zs).toArray w1 (enters_of Tryz.func196 (by kernel_rfl) rfl) (cmpLays b 0 _ w1) (holds_own ho) (Array.getElem?_eq_some_iff.1 hgb).1 (by simp at hl ⊢; omega)
   change Calls Tryz.prog 216 _ _ _ at hs
   have hH := holds_own ho
   have hlt := (Array.getElem?_eq_some_iff.1 hgb).1
   have hh := hb.size
   rw [List.size_toArray] at hs
   clear hrd ho hgb
   go_wp2_with (go_at_call 216; refine hs.mono ?_; rintro e w2 ⟨rfl, d', n, os, hp, hsd, rfl⟩)
   go_ret
   have hpm := perm_of (d := (z :: zs).toArray) (by rw [List.size_toArray]; exact hp)
   have hsz : d'.size = (z :: zs).length := by have := hp.1; simpa using this
   refine ⟨_, cap, d'.toList, by simp [hsz], rd_holds (holdsK_sortWorldK_c encR 2 w1 b 0 _ d' n os hH hlt (by simpa using hsz)), hpm, sorted_of hsz.symm hsd, ?_⟩
   exact hb.trans (below_sort hB hh)
end Go.Proofs.YtgngaldoemopjaaGreatDoor.U
namespace Go.Proofs.YtgngaldoemopjaaGreatDoor.U
open Go.RowKit Go.Shelf
theorem elemSize234 (w : World) : (sizeOf (Tryz.prog.elem 234)).run Tryz.prog w = .ok 2 w := by kernel_rfl
theorem OwnR.base {w : World} {B B' : Nat} {e : TypeId} {v : Value} {xs : List S.R} (h : OwnR w B e v xs) (hb : B' ≤ B) : OwnR w B' e v xs := by
 obtain ⟨h1, h2 | ⟨g, cap, cur, rfl, h3, h4⟩⟩ := h
 · exact ⟨h1, .inl h2⟩
 · exact ⟨h1, .inr ⟨g, cap, cur, rfl, Nat.le_trans hb h3, h4⟩⟩
theorem glue_nil (s : S.R) : S.glue [] s = [s] := rfl
theorem glue_apart (o : List S.R) (z s : S.R) (h : z.2 + 1 < s.1) : S.glue (o ++ [z]) s = o ++ [z] ++ [s] := by simp [S.glue, h]
theorem glue_join (o : List S.R) (z s : S.R) (h : ¬ z.2 + 1 < s.1) : S.glue (o ++ [z]) s = o ++ [(z.1, max z.2 s.2)] := by simp [S.glue, h]
set_option maxRecDepth 100000 in
set_option maxHeartbeats 4000000 in
theorem joined_any (v0 : Value) (zs : List S.R) (hg : ∀ r ∈ zs, S.good r = true) (hl : zs.length ≤ 1000000) (w : World) (hit : Iter v0 zs w) :
   Calls Tryz.prog 180 #[v0] w fun e W' => ∃ u out, e = .returned u ∧ OwnR W' w.heap.size 160 u out ∧ S.Canon out ∧ (∀ p, S.has out p ↔ S.has zs p) ∧ out.length ≤ zs.length ∧ Below w.heap.size w W' := by
 have h := sorted_any v0 zs hl w hit
 obtain ⟨gf, lb, rfl, _, _⟩ := hit
 go_enter Tryz.func180, Tryz.ntmps180
 go_wp2_with fail
 refine h.mono ?_
 rintro e w1 ⟨ao, cap, d, rfl, hrd, hpm, hso, hb1⟩
 have hdl : d.length = zs.length := hpm.length_eq
 have hgd : ∀ r ∈ d, S.good r = true := fun r hr => hg r (hpm.mem_iff.1 hr)
 have HP := hide hpm
 have HD := hide hdl
 have hd6 : d.length ≤ 1000000 := by omega
 clear hpm hdl hg h
 go_wp2
 go_loopw [3, 12] (fun v p wr => ∃ (k : Nat) (out : List S.R), p = .int .i64 (k : Int) ∧ k ≤ d.length ∧ OwnR wr w1.heap.size 160 v out ∧ S.Glued (d.take k) out ∧ out.length ≤ k ∧ Below w1.heap.size w1 wr) (fun _ p _ => d.length - (intOf p).toNat)
 case atStart => exact ⟨0, [], rfl, Nat.zero_le _, ownR_nil _ _ _, S.glued_nil, Nat.le_refl _, Below.refl _ _⟩
 case round =>
   obtain ⟨k, out, rfl, hk, ho, hG, hol, hB⟩ := hrel
   by_cases hlt : k < d.length
   · obtain ⟨b, off, rfl, hc1, hc2⟩ := (hrd.later hB) k hlt
     have HT : Hid (d.take (k + 1) = d.take k ++ [d[k]]) := List.take_succ_eq_append_getElem hlt
     have hgk := hgd _ (List.getElem_mem hlt)
     have hlow : ∀ r ∈ d.take k, r.1 ≤ d[k].1 := by
       intro r hr
       obtain ⟨i, hi, rfl⟩ := List.mem_iff_getElem.1 hr
       rw [List.length_take] at hi
       rw [List.getElem_take]
       exact (List.pairwise_iff_getElem.1 hso) i k (by omega) hlt (by omega)
     have hst := hide (hG.step hgk hlow)
     rw [← HT.out] at hst
     have hgk2 := (S.good_iff _).1 hgk
     generalize d[k] = s at *
     obtain ⟨s1, s2⟩ := s
     obtain ⟨av, cv, rfl, hcv, hnv, hrv⟩ := ho.rd
     have hBa : ∀ q, Below w1.heap.size w1 ((wr.alloc (.cells #[.int .i32 s1, .int .i32 s2] 160)).drewN q) := fun q => below_drewN (nx hB (al1 _ _)) q
     have hba : ∀ q, Below wr.heap.size wr ((wr.alloc (.cells #[.int .i32 s1, .int .i32 s2] 160)).drewN q) := fun q => below_drewN (al1 _ _) q
     have hs0 := cells_two (World.alloc_heap_new wr (.cells #[.int .i32 s1, .int .i32 s2] 160))
     have hszr : (wr.alloc (.cells #[.int .i32 s1, .int .i32 s2] 160)).heap.size = wr.heap.size + 1 := by simp
     simp only at hgk2
     rcases out.eq_nil_or_concat with rfl | ⟨o, z, rfl⟩
     · rw [glue_nil] at hst
       clear hrv hG hlow HT hso hgd hgk
       simp only [List.length_nil] at hcv ⊢
       go_wp2_with fail
       go_quiet (fail)
       have hBq := hBa nq
       have hoq := ho.later (hba nq)
       have hsq0 : ((wr.alloc (.cells #[.int .i32 s1, .int .i32 s2] 160)).drewN nq).cell? ⟨wr.heap.size, 0, none⟩ = some (.int .i32 s1) := hs0.1
       have hsq1 : ((wr.alloc (.cells #[.int .i32 s1, .int .i32 s2] 160)).drewN nq).cell? ⟨wr.heap.size, 1, none⟩ = some (.int .i32 s2) := hs0.2
       clear hBa hba hs0 ho hszr
       generalize (wr.alloc (.cells #[.int .i32 s1, .int .i32 s2] 160)).drewN nq = wq at *
       go_wp2_with (at_builtin; refine wpl_appR Tryz.underlying234 info108 rfl _ _ rfl w1.heap.size _ [] (some ⟨wq.heap.size, 0, none⟩) [(s1, s2)] 1 1 rfl rfl rfl (OwnR.later hoq (al1 _ _)) (by have := hBq.size; simp at this ⊢; omega) (rdr_new _ s1 s2 _) (fun e => by cases e) (by simp) ?_; intro v' w5 hown' hb5 hgr5)
       rw [List.nil_append] at hown'
       go_roundw
       case rel => exact ⟨k + 1, _, by go_num, by omega, hown', hst.out, by simp, (nx hBq (al1 _ _)).trans hb5⟩
       case measure => simp [intOf]; omega
     · rw [List.concat_eq_append] at *
       have hgz := (S.good_iff z).1 (hG.canon.good z (by simp))
       obtain ⟨b2, off2, rfl, _, _⟩ := hrv 0 (by simp)
       have hoff : off2 = 0 := by
         obtain ⟨_, h2 | ⟨_, _, _, e, _⟩⟩ := ho
         · cases h2.1
         · cases e; rfl
       subst hoff
       have hlast := ho.at_last
       obtain ⟨z1, z2⟩ := z
       simp only at hgz hlast
       clear hrv hG hlow HT hso hgd hgk
       have hlen : (o ++ [(z1, z2)]).length = o.length + 1 := by simp
       rw [hlen] at hcv hol hlast ho ⊢
       obtain ⟨_, hb2, hz1, hz2, hfz⟩ := hlast
       have hap := apart_any z1 z2 s1 s2 (by omega) (by omega)
       go_wp2_with fail
       obtain ⟨wa, hwa⟩ : ∃ wa, wa = (wr.alloc (.cells #[.int .i32 s1, .int .i32 s2] 160)).drew := ⟨_, rfl⟩
       have hB1 : Below wr.heap.size wr wa := by rw [hwa]; exact (al1 _ _).drew
       have hbx : wa.heap[wr.heap.size]? = some (.cells #[.int .i32 s1, .int .i32 s2] 160) := by rw [hwa]; exact World.alloc_heap_new wr _
       have hza : wa.rangeAt b2 (0 + o.length * 2) [.int .i32 z1, .int .i32 z2] := by
         rw [Nat.zero_add]
         exact range_two (cell_later hB1 hz1) (cell_later hB1 hz2)
       have hlb : b2 < wa.heap.size := Nat.lt_of_lt_of_le (cell_lt hz1) hB1.size
       have hls : wr.heap.size < wa.heap.size := (Array.getElem?_eq_some_iff.1 hbx).1
       refine Reg.start (B := wa.heap.size) (by kernel_rfl) ?_
       rw [← hwa]
       have hzr : ∀ {wx : World} {b' o' : Nat} {cs : List Value}, wa.rangeAt b' o' cs → b' < wa.heap.size → Below wa.heap.size wa wx → wx.rangeAt b' o' cs := fun h hl hb j v hj => (hb.cell hl).trans (h j v hj)
       refine Reg.take (fun _ _ _ _ _ h => h) 0 _ 19 (.int .i64 (o.length : Int)) rfl (by kernel_rfl) (by kernel_rfl) (by kernel_rfl) rfl (by kernel_rfl) (by kernel_rfl) (fun _ _ => by kernel_rfl) ?_
       refine Reg.take (fun _ _ _ _ _ h => h) 1 _ 20 (.bool false) rfl (by kernel_rfl) (by kernel_rfl) (by kernel_rfl) rfl (by kernel_rfl) (by kernel_rfl) (fun _ _ => Reg.lss (k := .i64) (m := (o.length : Int)) (n := 0) rfl (by kernel_rfl) (by kernel_rfl) (by simp)) ?_
       refine Reg.take (fun _ _ _ _ _ h => h) 2 _ 21 (.bool false) rfl (by kernel_rfl) (by kernel_rfl) (by kernel_rfl) rfl (by kernel_rfl) (by kernel_rfl) (fun _ _ => by kernel_rfl) ?_
       refine Reg.take (fun _ _ _ _ _ h => h) 3 _ 22 (.slice (some ⟨b2, 0, none⟩) (o.length + 1) cv) rfl (by kernel_rfl) (by kernel_rfl) (by kernel_rfl) rfl (by kernel_rfl) (by kernel_rfl) (fun _ _ => by kernel_rfl) ?_
       refine Reg.take (fun _ _ _ _ _ h => h) 4 _ 23 (.int .i64 (o.length : Int)) rfl (by kernel_rfl) (by kernel_rfl) (by kernel_rfl) rfl (by kernel_rfl) (by kernel_rfl) (fun _ _ => by kernel_rfl) ?_
       refine Reg.take (fun _ _ _ _ _ h => h) 5 _ 24 (.pointer (some ⟨b2, 0 + o.length * 2, none⟩)) rfl (by kernel_rfl) (by kernel_rfl) (by kernel_rfl) rfl (by kernel_rfl) (by kernel_rfl) (fun wx _ => Reg.ix (len := o.length + 1) (cap := cv) (q := .i64) rfl (by kernel_rfl) (by kernel_rfl) (by omega) Tryz.underlying234 (elemSize234 wx)) ?_
       refine Reg.take (fun _ _ _ _ _ h => h) 6 _ 25 (.agg #[.int .i32 z1, .int .i32 z2]) rfl (by kernel_rfl) (by kernel_rfl) (by kernel_rfl) rfl (by kernel_rfl) (by kernel_rfl) (fun wx hb => Reg.ld (cs := [.int .i32 z1, .int .i32 z2]) rfl (by kernel_rfl) (hzr hza hlb hb) Tryz.underlying160 rfl (by kernel_rfl)) ?_
       refine Reg.take (fun _ _ _ _ _ h => h) 7 _ 26 (.agg #[.int .i32 s1, .int .i32 s2]) rfl (by kernel_rfl) (by kernel_rfl) (by kernel_rfl) rfl (by kernel_rfl) (by kernel_rfl) (fun wx hb => Reg.ld (cs := [.int .i32 s1, .int .i32 s2]) rfl (by kernel_rfl) (hzr (range_block hbx) hls hb) Tryz.underlying160 rfl (by kernel_rfl)) ?_
       refine Reg.call 8 _ 27 118 _ _ #[.agg #[.int .i32 z1, .int .i32 z2], .agg #[.int .i32 s1, .int .i32 s2]] rfl (by kernel_rfl) rfl (by kernel_rfl) (by kernel_rfl) rfl (by kernel_rfl) (by kernel_rfl) (hap wa) ?_
       clear hap
       rintro e wq ⟨rfl, hbq⟩
       refine ⟨_, wq.heap.size, rfl, hbq.size, hbq, ?_⟩
       obtain ⟨r, hr⟩ : ∃ r, decide (z2 + 1 < s1) = r := ⟨_, rfl⟩
       rw [hr]
       refine Reg.take (fun _ _ _ _ _ h => h) 9 _ 28 (.bool r) rfl (by kernel_rfl) (by kernel_rfl) (by kernel_rfl) rfl (by kernel_rfl) (by kernel_rfl) (fun _ _ => by kernel_rfl) ?_
       refine Reg.done_at (by kernel_rfl) { tmps := #[.func (.func gf) #[] lb, undef, .slice none 0 0, .slice (some ⟨b2, 0, none⟩) (o.length + 1) cv, .slice (some ⟨b, off, none⟩) d.length cap, undef, .pointer (some ⟨wr.heap.size, 0, none⟩), .int .i64 (o.length : Int), .func (.func gf) #[] lb, .slice (some ⟨b, off, none⟩) d.length cap, .slice (some ⟨b, off, none⟩) d.length cap, .int .i64 (d.length : Int), .int .i64 (k : Int), .bool true, .pointer (some ⟨b, off + k * 2, none⟩), .agg #[.int .i32 s1, .int .i32 s2], .slice (some ⟨b2, 0, none⟩) (o.length + 1) cv, .int .i64 ((o.length : Int) + 1), .int .i64 (o.length : Int), .int .i64 (o.length : Int), .bool false, .bool false, .slice (some ⟨b2, 0, none⟩) (o.length + 1) cv, .int .i64 (o.length : Int), .pointer (some ⟨b2, 0 + o.length * 2, none⟩), .agg #[.int .i32 z1, .int .i32 z2], .agg #[.int .i32 s1, .int .i32 s2], .bool r, .bool r, u29, u30, u31, u32, u33, u34, u35, u36, u37, u38, u39, u40, u41, u42, u43, u44, u45, undef], defers := [] } (by kernel_rfl) ?_
       have hB2 := nx hB1 hbq
       have hoq := ho.later hB2
       have hBq := nx hB hB2
       have hsq0 := (hbq.cell (p := ⟨wr.heap.size, 0, none⟩) hls).trans (cells_two hbx).1
       have hsq1 := (hbq.cell (p := ⟨wr.heap.size, 1, none⟩) hls).trans (cells_two hbx).2
       have hlsq : wr.heap.size < wq.heap.size := Nat.lt_of_lt_of_le hls hbq.size
       have hwr := hB.size
       clear hBa hba hs0 hszr hza hzr hlb hbx hB1 hbq hwa hz1 hz2 hfz hB2 ho hB hc1 hc2
       cases r with
       | true =>
         have hlt2 : z2 + 1 < s1 := by simpa using hr
         have HG : Hid (S.Glued (List.take (k + 1) d) (o ++ [(z1, z2)] ++ [(s1, s2)])) := by
           have := hst.out
           rw [glue_apart o (z1, z2) (s1, s2) hlt2] at this
           exact this
         clear hst hr
         go_wp2_with (at_builtin; refine wpl_appR Tryz.underlying234 info108 rfl _ _ rfl w1.heap.size _ (o ++ [(z1, z2)]) (some ⟨wq.heap.size, 0, none⟩) [(s1, s2)] 1 1 rfl rfl rfl (OwnR.later hoq (al1 _ _)) (by have := hBq.size; simp at this ⊢; omega) (rdr_new _ s1 s2 _) (fun e => by cases e) (by simp at hol ⊢; omega) ?_; intro v' w5 hown' hb5 hgr5)
         go_roundw
         case rel => exact ⟨k + 1, _, by go_num, by omega, hown', HG.out, by simp at hol ⊢; omega, (nx hBq (al1 _ _)).trans hb5⟩
         case measure => simp [intOf]; omega
       | false =>
         have hlt2 : ¬ z2 + 1 < s1 := by simpa using hr
         have HG : Hid (S.Glued (List.take (k + 1) d) (o ++ [(z1, max z2 s2)])) := by
           have := hst.out
           rw [glue_join o (z1, z2) (s1, s2) hlt2] at this
           exact this
         clear hst hr
         obtain ⟨_, hb2', hz1, hz2, hfz⟩ := hoq.at_last
         have hmx : (if z2 < s2 then s2 else z2) = max z2 s2 := by omega
         have hnew := hoq.set_last (max z2 s2)
         go_wp2_with fail
         go_region
         have hnw : OwnR (wq.setCell ⟨b2, o.length * 2 + 1, none⟩ (.int .i32 (max z2 s2))).drew w1.heap.size 160 (.slice (some ⟨b2, 0, none⟩) (o.length + 1) cv) (o ++ [(z1, max z2 s2)]) := hnew
         have hBn : Below w1.heap.size w1 (wq.setCell ⟨b2, o.length * 2 + 1, none⟩ (.int .i32 (max z2 s2))).drew := (hBq.setCell (p := ⟨b2, o.length * 2 + 1, none⟩) hb2' _).drew
         clear hnew
         generalize (wq.setCell ⟨b2, o.length * 2 + 1, none⟩ (.int .i32 (max z2 s2))).drew = wn at *
         go_wp2
         go_roundw
         case rel => exact ⟨k + 1, _, by go_num, by omega, hnw, HG.out, by simp at hol ⊢; omega, hBn⟩
         case measure => simp [intOf]; omega
   · obtain rfl : k = d.length := by omega
     rw [List.take_length] at hG
     go_wp2
     go_ret
     exact ⟨_, out, rfl, ho.base hb1.size, hG.canon, fun p => by rw [hG.mem, S.has_perm HP.out], by rw [← HD.out]; exact hol, nx hb1 hB⟩
set_option maxHeartbeats 1000000 in
theorem setOf_any (b off cap : Nat) (ls : List L3) (hl : ls.length ≤ 1000) (hl2 : ∀ p ∈ ls, p.2.2.length ≤ 1000000) (hfl : (flat ls).length ≤ 1000000) (w : World) (hr : RdL w b off ls) :
   Calls Tryz.prog 161 #[.slice (some ⟨b, off, none⟩) ls.length cap] w fun e W' => ∃ u, e = .returned u ∧ OwnR W' w.heap.size 160 u (S.set (flat ls)) ∧ (S.set (flat ls)).length ≤ (flat ls).length ∧ Below w.heap.size w W' := by
 go_enter Tryz.func161, Tryz.ntmps161
 go_wp2_with fail
 refine (goodSpans_gives b off cap ls hl hl2 w hr).mono ?_
 rintro e w1 ⟨v, rfl, hit, hb1⟩
 have hgl : (S.goods (flat ls)).length ≤ (flat ls).length := List.length_filter_le _ _
 have h := joined_any v (S.goods (flat ls)) (fun r hr => S.goods_good hr) (by omega) w1 hit
 obtain ⟨gf, lb, rfl, _, _⟩ := hit
 go_wp2_with fail
 refine h.mono ?_
 rintro e w2 ⟨u, out, rfl, ho, hC, hm, hol, hb2⟩
 obtain rfl : out = S.set (flat ls) := S.set_eq hC hm
 have hq := ho.base hb1.size
 obtain ⟨ao, cp, rfl, _⟩ := ho.rd
 go_wp2
 go_ret
 exact ⟨_, rfl, hq, by omega, nx hb1 hb2⟩
end Go.Proofs.YtgngaldoemopjaaGreatDoor.U
namespace Go.Proofs.YtgngaldoemopjaaGreatDoor.U
open Go.RowKit Go.Shelf
def Res (w : World) (zs : List S.R) (e : Ending) (W' : World) : Prop := ∃ ao cap, e = .returned (.slice ao zs.length cap) ∧ RdR W' ao zs ∧ (ao = none → cap = 0) ∧ Below w.heap.size w W'
theorem OwnR.res {w W' : World} {B : Nat} {e : TypeId} {v : Value} {zs : List S.R} (h : OwnR W' B e v zs) (hb : Below w.heap.size w W') : Res w zs (.returned v) W' := by
 obtain ⟨ao, cap, rfl, _, hn, hr⟩ := h.rd
 exact ⟨ao, cap, rfl, hr, hn, hb⟩
theorem rdl_one {W : World} {ao : Option Addr} {ca : Nat} {xs : List S.R} (T : TypeId) (h : RdR W ao xs) : RdL (W.alloc (.cells #[.slice ao xs.length ca] T)) W.heap.size 0 [(ao, ca, xs)] := by
 refine ⟨fun i hi => ?_, fun p hp => ?_, by simp⟩
 · obtain rfl : i = 0 := by simpa using hi
   exact (Boxed.new W T _).cell
 · simp at hp; subst hp
   exact h.later (al1 W _)
theorem setOf1 (ao : Option Addr) (ca : Nat) (xs : List S.R) (T : TypeId) (hl : xs.length ≤ 1000000) (W : World) (h : RdR W ao xs) :
   Calls Tryz.prog 161 #[.slice (some ⟨W.heap.size, 0, none⟩) 1 1] (W.alloc (.cells #[.slice ao xs.length ca] T)) (Res W (S.set xs)) := by
 have h1 := setOf_any W.heap.size 0 1 [(ao, ca, xs)] (by simp) (fun p hp => by simp at hp; subst hp; exact hl) (by simp [flat]; exact hl) _ (rdl_one T h)
 rw [show flat [(ao, ca, xs)] = xs by simp [flat]] at h1
 refine h1.mono ?_
 rintro e W' ⟨u, rfl, ho, _, hb⟩
 exact ho.res (nx (al1 W _) hb)
end Go.Proofs.YtgngaldoemopjaaGreatDoor.U
namespace Go.Proofs.YtgngaldoemopjaaGreatDoor.U
open Go.RowKit Go.Shelf
noncomputable def normL (xs : List S.R) : List S.R := if (xs.all S.good) = true ∧ (S.set xs).length ≤ 200 then S.set xs else []
noncomputable def normE (xs : List S.R) : Int := if (xs.all S.good) = true ∧ (S.set xs).length ≤ 200 then 0 else 30
set_option maxRecDepth 100000 in
set_option maxHeartbeats 2000000 in
theorem norm_any (ao : Option Addr) (ca : Nat) (xs : List S.R) (hl : xs.length ≤ 400000) (w : World) (h : RdR w ao xs) :
   Calls Tryz.prog 190 #[.slice ao xs.length ca] w fun e W' => ∃ a c, e = .returned (.tuple #[.slice a (normL xs).length c, .int .i64 (normE xs)]) ∧ RdR W' a (normL xs) ∧ (a = none → c = 0) ∧ Below w.heap.size w W' := by
 have hs1 := S.set_length xs
 have hset := fun (T : TypeId) (W : World) (h : RdR W ao xs) => setOf1 ao ca xs T (by omega) W h
 obtain ⟨nl, hnl⟩ : ∃ nl, normL xs = nl := ⟨_, rfl⟩
 obtain ⟨ne, hne⟩ : ∃ ne, normE xs = ne := ⟨_, rfl⟩
 rw [hnl, hne]
 unfold normL at hnl
 unfold normE at hne
 have HL := hide hnl
 have HE := hide hne
 clear hnl hne
 generalize S.set xs = zs at *
 go_enter Tryz.func190, Tryz.ntmps190
 go_wp2
 go_loopw [9] (fun p wr => ∃ k : Nat, p = .int .i64 (k : Int) ∧ k ≤ xs.length ∧ (∀ r ∈ xs.take k, S.good r = true) ∧ Below w.heap.size w wr) (fun p _ => xs.length - (intOf p).toNat)
 case atStart => exact ⟨0, rfl, Nat.zero_le _, fun r hr => by simp at hr, Below.refl _ _⟩
 case round =>
   obtain ⟨k, rfl, hk, hgs, hB⟩ := hrel
   by_cases hlt : k < xs.length
   · obtain ⟨b, off, rfl, hd1, hd2⟩ := (h.later hB) k hlt
     have hT := List.take_succ_eq_append_getElem hlt
     have hgood := isGood_any xs[k].1 xs[k].2
     rw [show (xs[k].1, xs[k].2) = xs[k] from rfl] at hgood
     obtain ⟨gx, hgx⟩ : ∃ gx, S.good xs[k] = gx := ⟨_, rfl⟩
     rw [hgx] at hgood
     have HX := hide hgx
     have HT := hide hT
     have hmem := List.getElem_mem hlt
     clear hgx hT
     generalize hxk : xs[k] = s at *
     obtain ⟨s1, s2⟩ := s
     simp only at hgood hd1 hd2
     have HK := hide hxk
     have hbx := al1 wr (.cells #[.int .i32 s1, .int .i32 s2] 140)
     clear hxk h
     cases gx with
     | true =>
       go_wp2_with (go_at_call 106; refine (hgood _).mono ?_; clear hgood; rintro e w2 ⟨rfl, hb2⟩)
       go_roundw
       case rel => exact ⟨k + 1, by go_num, by omega, fun r hr => by
         rw [HT.out] at hr
         rcases List.mem_append.1 hr with hr | hr
         · exact hgs r hr
         · simp at hr; rw [hr]; exact HX.out, nx (nx hB hbx) hb2⟩
       case measure => simp [intOf]; omega
     | false =>
       go_wp2_with (go_at_call 106; refine (hgood _).mono ?_; clear hgood; rintro e w2 ⟨rfl, hb2⟩)
       have hno : ¬ ((xs.all S.good) = true ∧ zs.length ≤ 200) := fun hh => by
         have := List.all_eq_true.1 hh.1 _ hmem
         rw [HX.out] at this
         cases this
       rw [if_neg hno] at HL HE
       obtain rfl : [] = nl := HL.out
       obtain rfl : 30 = ne := HE.out
       go_ret2
       exact ⟨none, 0, rfl, rdr_nil _ _, fun _ => rfl, nx (nx hB hbx) hb2⟩
   · obtain rfl : k = xs.length := by omega
     rw [List.take_length] at hgs
     have hall : xs.all S.good = true := List.all_eq_true.2 hgs
     have hr0 := h.later hB
     go_wp2_with fail
     refine (hset _ wr hr0).mono ?_
     clear hset
     rintro e w1 ⟨a1, c1, rfl, hr1, _, hb1⟩
     by_cases hbig : zs.length ≤ 200
     · go_wp2_with fail
       refine (values_gives a1 zs c1 (by omega) w1 hr1).mono ?_
       rintro e w2 ⟨v, rfl, hit, hb2⟩
       have hlo := listOf_any v zs (by omega) w2 w2 hit (Below.refl _ _)
       obtain ⟨gf, lb, rfl, _, _⟩ := hit
       go_wp2_with fail
       refine hlo.mono ?_
       rintro e w3 ⟨u, rfl, ho, hb3⟩
       obtain ⟨a3, c3, rfl, _, hn3, hr3⟩ := ho.rd
       go_wp2
       rw [if_pos ⟨hall, hbig⟩] at HL HE
       obtain rfl : zs = nl := HL.out
       obtain rfl : 0 = ne := HE.out
       go_ret2
       exact ⟨a3, c3, rfl, hr3, hn3, nx (nx (nx hB hb1) hb2) hb3⟩
     · go_wp2
       rw [if_neg (fun hh => hbig hh.2)] at HL HE
       obtain rfl : [] = nl := HL.out
       obtain rfl : 30 = ne := HE.out
       go_ret2
       exact ⟨none, 0, rfl, rdr_nil _ _, fun _ => rfl, nx hB hb1⟩
end Go.Proofs.YtgngaldoemopjaaGreatDoor.U
namespace Go.Proofs.YtgngaldoemopjaaGreatDoor
open Go.RowKit
open E (T tk isS rpt beg)
theorem normL_eq (xs : E.Rs) : U.normL xs = E.nL xs := rfl
theorem normE_eq (xs : E.Rs) : U.normE xs = (E.nE xs : Int) := by
 unfold U.normE E.nE
 split <;> rfl
theorem n_one {a b : Int} (h0 : 0 ≤ a) (h1 : a ≤ b) (h2 : b ≤ 1114111) : E.nL [(a, b)] = [(a, b)] ∧ E.nE [(a, b)] = 0 := by
 have hg : U.S.good (a, b) = true := (U.S.good_iff _).2 ⟨h0, h1, h2⟩
 have hs := U.S.set_self (U.S.canon_one hg)
 constructor
 · unfold E.nL
   rw [if_pos ⟨by simp [hg], by rw [hs]; simp⟩, hs]
 · unfold E.nE
   rw [if_pos ⟨by simp [hg], by rw [hs]; simp⟩]
theorem Kp.keep {w W : World} {x b : Nat} {o : Obj} (h : Kp w.heap.size x w W) (hb : w.heap[b]? = some o) (hx : b ≠ x) : W.heap[b]? = some o := h.tabs (Nat.le_refl _) hb hx
end Go.Proofs.YtgngaldoemopjaaGreatDoor
namespace Go.Proofs.YtgngaldoemopjaaGreatDoor
open Go.RowKit
open E (T tk isS rpt beg)
def AnsN (r : E.Res) (R : Nat) (ao : Option Addr) (cap : Nat) (l : List E.Tok) (o : Nat) (w : World) (e : Ending) (w' : World) : Prop :=
 Kp w.heap.size R w w' ∧ ((∃ t j v, r = .ok (t, j) ∧ e = .returned (.tuple #[v, .int .i64 0]) ∧ TR w' (fun b => w.heap.size ≤ b) t v ∧ Rdr w' R ao cap l j o) ∨
   ∃ (c j : Nat) (d : ND) (o' : Nat), r = .error (c, j) ∧ e = .returned (.tuple #[d.v, .int .i64 (c : Int)]) ∧ (((c : Int) != 0) = true) ∧ Rdr w' R ao cap l j o')
def rdAt (w : World) (R : Nat) : Nat := match w.cell? ⟨R, 1, none⟩ with | some (.int _ n) => n.toNat | _ => 0
theorem Rdr.at_ {w : World} {R : Nat} {ao : Option Addr} {cap : Nat} {l : List E.Tok} {i o : Nat} (h : Rdr w R ao cap l i o) : rdAt w R = i := by
 unfold rdAt
 rw [h.cells.2.1]
 simp
theorem tr_set {W : World} {ok : Nat → Prop} {sp : Option Addr} {S : E.Rs} (a : Int) (sc : Nat) (hr : U.RdR W sp S) : TR W ok (.mk 1 a S [] []) (.agg #[.int .i64 1, .int .i64 a, .slice sp S.length sc, .string ⟨#[]⟩, .slice none 0 0]) := by
 rw [TR]
 exact ⟨sp, sc, none, 0, rfl, hr, Nat.le_refl _, by rw [KR]; trivial⟩
theorem roomN_noI {W : World} {b : Nat} (h : W.heap[b]? = some roomN) : NoI W b := noI_cells (cs := [_, _, _, _, _]) h rfl
theorem rdr_putN {w : World} {sp : Option Addr} {s : E.Rs} {b : Nat} {v0 v1 v2 v3 v4 : Value} (h : U.RdR w sp s) (hx : NoI w b) : U.RdR (putN w b v0 v1 v2 v3 v4) sp s := rdr_but h (fun _ _ hk => putN_other hk) hx
end Go.Proofs.YtgngaldoemopjaaGreatDoor
