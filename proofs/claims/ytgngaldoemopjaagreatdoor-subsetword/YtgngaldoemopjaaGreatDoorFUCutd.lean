/- Joined: UCuts UCutd. -/
import Derived.Test.YtgngaldoemopjaaGreatDoorFURegu
import Derived.Test.YtgngaldoemopjaaGreatDoorFUEndsw
namespace Go.Proofs.YtgngaldoemopjaaGreatDoor.U
open Go.RowKit Go.Shelf
attribute [local go_sem] Oper.semAt_some
def runP (zs : List (Int × Nat)) : (Int × Nat) × List (S.R × Nat) :=
 zs.foldl (fun s p => ((p.1, s.1.2 ^^^ p.2), s.2 ++ if s.1.1 < p.1 then [((s.1.1, p.1 - 1), s.1.2)] else [])) ((0, 0), [])
theorem runP_snoc (zs : List (Int × Nat)) (a : Int) (t : Nat) : runP (zs ++ [(a, t)]) = ((a, (runP zs).1.2 ^^^ t), (runP zs).2 ++ if (runP zs).1.1 < a then [(((runP zs).1.1, a - 1), (runP zs).1.2)] else []) := by
 unfold runP
 rw [List.foldl_append]
 rfl
def pieces (zs : List (Int × Nat)) : List (S.R × Nat) := (runP zs).2 ++ if (runP zs).1.1 ≤ 1114111 then [(((runP zs).1.1, 1114111), (runP zs).1.2)] else []
def encQ (p : S.R × Nat) : Array Value := #[.agg #[.int .i32 p.1.1, .int .i32 p.1.2], .int .u64 (p.2 : Int)]
theorem runP_bounds {zs : List (Int × Nat)} (h : ∀ p ∈ zs, 0 ≤ p.1 ∧ p.1 ≤ 1114112 ∧ p.2 < 2 ^ 64) : 0 ≤ (runP zs).1.1 ∧ (runP zs).1.1 ≤ 1114112 ∧ (runP zs).1.2 < 2 ^ 64 := by
 rcases List.eq_nil_or_concat zs with rfl | ⟨zs', ⟨a, t⟩, rfl⟩
 · simp [runP]
 · rw [List.concat_eq_append] at h ⊢
   rw [runP_snoc]
   have h1 := h (a, t) (by simp)
   have ih := runP_bounds (zs := zs') (fun p hp => h p (by simp [hp]))
   exact ⟨h1.1, h1.2.1, Nat.xor_lt_two_pow ih.2.2 h1.2.2⟩
termination_by zs.length
decreasing_by simp_all
theorem runP_prefix (zs ys : List (Int × Nat)) : (runP zs).2 <+: (runP (zs ++ ys)).2 := by
 rcases List.eq_nil_or_concat ys with rfl | ⟨ys', ⟨a, t⟩, rfl⟩
 · simp
 · rw [List.concat_eq_append, ← List.append_assoc, runP_snoc]
   exact (runP_prefix zs ys').trans (List.prefix_append _ _)
termination_by ys.length
decreasing_by simp_all
theorem endsZ_in (ls : List L3) (hl : ls.length ≤ 64) : ∀ p ∈ endsZ ls, 0 ≤ p.1 ∧ p.1 ≤ 1114112 ∧ p.2 < 2 ^ 64 := by
 intro p hp
 obtain ⟨k, hk, rfl⟩ := List.mem_map.1 hp
 obtain ⟨i, hi⟩ := (ksOf_mem _ _).1 hk
 have := evT_in hi
 exact ⟨this.1, this.2, evN_lt _ 64 (fun q hq => by have := evT_lt hq; omega) _⟩
set_option maxHeartbeats 1000000 in
theorem endsMake_any (sao : Option Addr) (len cap : Nat) (w : World) :
   Calls Tryz.prog 99 #[.slice sao len cap] w fun e w' => e = .returned (.func (.func 130) #[] #[.pointer (some ⟨w.heap.size, 0, none⟩)]) ∧ w' = w.alloc (.cells #[.slice sao len cap] 93) := by
 go_enter Tryz.func99, Tryz.ntmps99
 go_wp2
 go_ret
 exact ⟨rfl, rfl⟩
set_option maxHeartbeats 1000000 in
theorem cutsMake_any (sao : Option Addr) (len cap : Nat) (w : World) :
   Calls Tryz.prog 69 #[.slice sao len cap] w fun e w' => e = .returned (.func (.func 98) #[] #[.pointer (some ⟨w.heap.size, 0, none⟩)]) ∧ w' = w.alloc (.cells #[.slice sao len cap] 93) := by
 go_enter Tryz.func69, Tryz.ntmps69
 go_wp2
 go_ret
 exact ⟨rfl, rfl⟩
set_option maxRecDepth 100000 in
set_option maxHeartbeats 8000000 in
theorem cuts1_in (n : Nat) (hn : 4 ≤ n) (Bn cap : Nat) (sao : Option Addr) (ls : List L3) (hl : ls.length ≤ 64) (hl2 : ∀ p ∈ ls, p.2.2.length ≤ 5000) (l : Nat) (J : List (S.R × Nat) → World → Prop) (W : World)
   (hbox : W.cell? ⟨Bn, 0, none⟩ = some (.slice sao ls.length cap)) (hrd : RdS W sao ls) (hJ : ∀ s A B, J s A → Quiet W.heap.size A B → J s B)
   (hY : ∀ pre x W1, J pre W1 → pre ++ [x] <+: pieces (endsZ ls) → YieldAt Fence.wide (n - 1) Tryz.prog l (encQ x) W1 fun e W' => e = .returned (.bool true) ∧ J (pre ++ [x]) W' ∧ Kept W.heap.size W1 W') (h0 : J [] W) :
   CallsIn Fence.wide n Tryz.prog 98 #[.func (.yield l) #[] #[], .pointer (some ⟨Bn, 0, none⟩)] W fun e W' => (∃ v, e = .returned v) ∧ J (pieces (endsZ ls)) W' := by
 refine callsIn_of_wp_marks Tryz.func98 rfl trivial ?_ rfl
 simp only [Tryz.ntmps98, List.size_toArray, List.length_cons, List.length_nil, Nat.reduceAdd, Nat.reduceSub, Array.replicate_succ, Array.replicate_zero, List.push_toArray, List.append_toArray, List.nil_append, List.cons_append]
 have hb1 := al1 W (.cells #[.func (.yield l) #[] #[]] 180)
 have hb2 := al1 (W.alloc (.cells #[.func (.yield l) #[] #[]] 180)) (.cells #[.int .i32 0] 21)
 have hb3 := al1 ((W.alloc (.cells #[.func (.yield l) #[] #[]] 180)).alloc (.cells #[.int .i32 0] 21)) (.cells #[.int .u64 0] 141)
 have hbox3 := cell_later (nx (nx hb1 hb2) hb3) hbox
 have hn1 : 1 ≤ n := by omega
 have hn2 : 1 ≤ n - 1 - 1 := by omega
 have hn3 : 1 ≤ n - 1 := by omega
 gi_wp2_with (refine ⟨trivial, ?_⟩; gi_at_call 99; refine (callsIn_wide.2 (endsMake_any sao ls.length cap _)).mono ?_; rintro e w2 ⟨rfl, rfl⟩)
 have bY := Boxed.new W 180 (.func (.yield l) #[] #[])
 have bF := Boxed.new (W.alloc (.cells #[.func (.yield l) #[] #[]] 180)) 21 (.int .i32 0)
 have bI := Boxed.new ((W.alloc (.cells #[.func (.yield l) #[] #[]] 180)).alloc (.cells #[.int .i32 0] 21)) 141 (.int .u64 0)
 have bS := Boxed.new (((W.alloc (.cells #[.func (.yield l) #[] #[]] 180)).alloc (.cells #[.int .i32 0] 21)).alloc (.cells #[.int .u64 0] 141)) 93 (.slice sao ls.length cap)
 have hb4 := al1 (((W.alloc (.cells #[.func (.yield l) #[] #[]] 180)).alloc (.cells #[.int .i32 0] 21)).alloc (.cells #[.int .u64 0] 141)) (.cells #[.slice sao ls.length cap] 93)
 have hbB := nx (nx (nx hb1 hb2) hb3) hb4
 replace bY := ((bY.alloc (.cells #[.int .i32 0] 21)).alloc (.cells #[.int .u64 0] 141)).alloc (.cells #[.slice sao ls.length cap] 93)
 replace bF := (bF.alloc (.cells #[.int .u64 0] 141)).alloc (.cells #[.slice sao ls.length cap] 93)
 replace bI := bI.alloc (.cells #[.slice sao ls.length cap] 93)
 have hszB : ((((W.alloc (.cells #[.func (.yield l) #[] #[]] 180)).alloc (.cells #[.int .i32 0] 21)).alloc (.cells #[.int .u64 0] 141)).alloc (.cells #[.slice sao ls.length cap] 93)).heap.size = W.heap.size + 4 := by simp
 simp only [World.size_alloc] at bF bI bS
 have hb5 : W.heap.size + 1 + 1 + 1 = W.heap.size + 3 := rfl
 clear hb1 hb2 hb3 hb4 hbox3 hb5
 obtain ⟨wB, hwB⟩ : ∃ wB, (((W.alloc (.cells #[.func (.yield l) #[] #[]] 180)).alloc (.cells #[.int .i32 0] 21)).alloc (.cells #[.int .u64 0] 141)).alloc (.cells #[.slice sao ls.length cap] 93) = wB := ⟨_, rfl⟩
 rw [hwB] at bY bF bI bS hbB hszB ⊢
 clear hwB
 have hz := endsZ_in ls hl
 refine enter_law2 (gf := 130) (lb := #[.pointer (some ⟨W.heap.size + 1 + 1 + 1, 0, none⟩)]) rfl (enters_of Tryz.func130 (by kernel_rfl) rfl) ?_
 intro r We hr hrec hdef hszE hbE
 have hsB1 : W.heap.size + 4 ≤ wB.heap.size := by omega
 have hsE1 : wB.heap.size + 2 ≤ We.heap.size := by omega
 have hWE := nx hbB hbE
 clear hszB hszE
 refine (ends1_in (n - 1) (by omega) (W.heap.size + 1 + 1 + 1) cap sao ls hl hl2 (wB.heap.size + 1)
   (fun pre A => J (runP pre).2 A ∧ Boxed A W.heap.size 180 (.func (.yield l) #[] #[]) ∧ Boxed A (W.heap.size + 1) 21 (.int .i32 (runP pre).1.1) ∧ Boxed A (W.heap.size + 1 + 1) 141 (.int .u64 ((runP pre).1.2 : Int)) ∧
     A.heap[wB.heap.size + 1]? = some (.loop r) ∧ A.heap[wB.heap.size]? = some (.deferred (some []))) We
   (cell_later hbE bS.cell) (hrd.later hWE) ?stable ?round ?start).mono ?_
 case stable =>
   rintro pre A B ⟨j1, j2, j3, j4, j5, j6⟩ hq
   refine ⟨hJ _ A B j1 (hq.mono (by omega)), hq.same _ _ j2 (.inl (by omega)), hq.same _ _ j3 (.inl (by omega)), hq.same _ _ j4 (.inl (by omega)), hq.same _ _ j5 (.inl (by omega)), hq.same _ _ j6 (.inl (by omega))⟩
 case start =>
   refine ⟨hJ [] W We h0 (quiet_below hWE), ?_, ?_, ?_, hrec.out, hdef.out⟩
   · exact (hbE.block _ bY.lt).trans bY
   · exact (hbE.block _ bF.lt).trans bF
   · exact (hbE.block _ bI.lt).trans bI
 case round =>
   clear bY bF bI bS h0
   rintro pre ⟨at_, t⟩ A ⟨j1, j2, j3, j4, j5, j6⟩ hpre
   have hin : ∀ p ∈ pre ++ [(at_, t)], 0 ≤ p.1 ∧ p.1 ≤ 1114112 ∧ p.2 < 2 ^ 64 := fun p hp => hz p (hpre.subset hp)
   have hbp := runP_bounds (zs := pre) (fun p hp => hin p (by simp [hp]))
   have hat := hin (at_, t) (by simp)
   have HS := hide (runP_snoc pre at_ t)
   have HP : Hid ((runP (pre ++ [(at_, t)])).2 <+: pieces (endsZ ls)) := hide (by
     obtain ⟨ys, hys⟩ := hpre
     rw [pieces, ← hys]
     exact (runP_prefix _ ys).trans (List.prefix_append _ _))
   clear hin hpre
   have hxb : (runP pre).1.2 ^^^ t < 2 ^ 64 := Nat.xor_lt_two_pow hbp.2.2 hat.2.2
   have hbx : bits .xor .u64 ((runP pre).1.2 : Int) (t : Int) = (((runP pre).1.2 ^^^ t : Nat) : Int) := bits_xor_u64_nat _ _ (by omega) (by omega)
   simp only at hat
   rw [HS.out] at HP
   generalize (runP pre).1.1 = f at *
   generalize (runP pre).1.2 = m at *
   generalize (runP pre).2 = q at *
   refine yield_law2 hr j5 rfl ?_
   simp only [encE]
   gi_wp2
   intro rb
   have hl1 : wB.heap.size + 1 < A.heap.size := (Array.getElem?_eq_some_iff.1 j5).1
   have hne : ∀ k, k ≠ wB.heap.size + 1 → (A.putObj (wB.heap.size + 1) (.loop rb)).heap[k]? = A.heap[k]? := fun k hk => World.putObj_heap_other hk
   have k1 := hJ _ A _ j1 (quiet_put (e := W.heap.size) j5 (by omega) rfl (.loop rb))
   have k2 : Boxed (A.putObj (wB.heap.size + 1) (.loop rb)) W.heap.size 180 (.func (.yield l) #[] #[]) := (hne _ (by omega)).trans j2
   have k3 : Boxed (A.putObj (wB.heap.size + 1) (.loop rb)) (W.heap.size + 1) 21 (.int .i32 f) := (hne _ (by omega)).trans j3
   have k4 : Boxed (A.putObj (wB.heap.size + 1) (.loop rb)) (W.heap.size + 1 + 1) 141 (.int .u64 (m : Int)) := (hne _ (by omega)).trans j4
   have k5 : Hid ((A.putObj (wB.heap.size + 1) (.loop rb)).heap[wB.heap.size + 1]? = some (.loop rb)) := World.putObj_heap_same hl1
   have k6 : Hid ((A.putObj (wB.heap.size + 1) (.loop rb)).heap[wB.heap.size]? = some (.deferred (some []))) := (hne _ (by omega)).trans j6
   have hkA : Kept We.heap.size A (A.putObj (wB.heap.size + 1) (.loop rb)) := ⟨by simp, fun k o hk he _ => by rw [hne k (by omega)]; exact hk⟩
   have HJ5 := hide j5
   clear j1 j2 j3 j4 j5 j6 hne hl1
   generalize A.putObj (wB.heap.size + 1) (.loop rb) = A1 at *
   have finish : ∀ (A2 : World) (q2 : List (S.R × Nat)), J q2 A2 → Boxed A2 W.heap.size 180 (.func (.yield l) #[] #[]) → Boxed A2 (W.heap.size + 1) 21 (.int .i32 f) → Boxed A2 (W.heap.size + 1 + 1) 141 (.int .u64 (m : Int)) → A2.heap[wB.heap.size + 1]? = some (.loop rb) → A2.heap[wB.heap.size]? = some (.deferred (some [])) → Kept We.heap.size A A2 →
       Hid ((((A2.setCell ⟨W.heap.size + 1, 0, none⟩ (.int .i32 at_)).setCell ⟨W.heap.size + 1 + 1, 0, none⟩ (.int .u64 ((m ^^^ t : Nat) : Int))).drew.heap[wB.heap.size + 1]? = some (.loop rb)) ∧
         ∀ W5, W5 = (((A2.setCell ⟨W.heap.size + 1, 0, none⟩ (.int .i32 at_)).setCell ⟨W.heap.size + 1 + 1, 0, none⟩ (.int .u64 ((m ^^^ t : Nat) : Int))).drew).putObj (wB.heap.size + 1) (.loop r) →
           J q2 W5 ∧ Boxed W5 W.heap.size 180 (.func (.yield l) #[] #[]) ∧ Boxed W5 (W.heap.size + 1) 21 (.int .i32 at_) ∧ Boxed W5 (W.heap.size + 1 + 1) 141 (.int .u64 ((m ^^^ t : Nat) : Int)) ∧ W5.heap[wB.heap.size + 1]? = some (.loop r) ∧ W5.heap[wB.heap.size]? = some (.deferred (some [])) ∧ Kept We.heap.size A W5) := by
     intro A2 q2 i1 i2 i3 i4 i5 i6 i7
     have q1 := quiet_box (e := W.heap.size) i3 (by omega) rfl (.int .i32 at_)
     have i3b := i3.set (.int .i32 at_)
     have i4b := i4.other (B' := W.heap.size + 1) (by omega) (.int .i32 at_)
     have i2b := i2.other (B' := W.heap.size + 1) (by omega) (.int .i32 at_)
     have i5b := ((grownBy_setCell' A2 (W.heap.size + 1) (.int .i32 at_)).block (wB.heap.size + 1) (Array.getElem?_eq_some_iff.1 i5).1 (by simp; omega)).trans i5
     have i6b := ((grownBy_setCell' A2 (W.heap.size + 1) (.int .i32 at_)).block (wB.heap.size) (Array.getElem?_eq_some_iff.1 i6).1 (by simp; omega)).trans i6
     have i7b := i7.trans (kept_grown (e := We.heap.size) (grownBy_setCell' A2 (W.heap.size + 1) (.int .i32 at_)) (by omega))
     have i1b := hJ _ _ _ i1 q1
     clear i1 i2 i3 i4 i5 i6 i7 q1
     generalize A2.setCell ⟨W.heap.size + 1, 0, none⟩ (.int .i32 at_) = A3 at *
     have q1 := quiet_box (e := W.heap.size) i4b (by omega) rfl (.int .u64 ((m ^^^ t : Nat) : Int))
     have i4c := i4b.set (.int .u64 ((m ^^^ t : Nat) : Int))
     have i3c := i3b.other (B' := W.heap.size + 1 + 1) (by omega) (.int .u64 ((m ^^^ t : Nat) : Int))
     have i2c := i2b.other (B' := W.heap.size + 1 + 1) (by omega) (.int .u64 ((m ^^^ t : Nat) : Int))
     have i5c := ((grownBy_setCell' A3 (W.heap.size + 1 + 1) (.int .u64 ((m ^^^ t : Nat) : Int))).block (wB.heap.size + 1) (Array.getElem?_eq_some_iff.1 i5b).1 (by simp; omega)).trans i5b
     have i6c := ((grownBy_setCell' A3 (W.heap.size + 1 + 1) (.int .u64 ((m ^^^ t : Nat) : Int))).block (wB.heap.size) (Array.getElem?_eq_some_iff.1 i6b).1 (by simp; omega)).trans i6b
     have i7c := i7b.trans (kept_grown (e := We.heap.size) (grownBy_setCell' A3 (W.heap.size + 1 + 1) (.int .u64 ((m ^^^ t : Nat) : Int))) (by omega))
     have i1c := hJ _ _ _ i1b q1
     clear i1b i2b i3b i4b i5b i6b i7b q1
     generalize A3.setCell ⟨W.heap.size + 1 + 1, 0, none⟩ (.int .u64 ((m ^^^ t : Nat) : Int)) = A4 at *
     refine ⟨i5c, ?_⟩
     rintro W5 rfl
     have hne : ∀ k, k ≠ wB.heap.size + 1 → (A4.drew.putObj (wB.heap.size + 1) (.loop r)).heap[k]? = A4.heap[k]? := fun k hk => World.putObj_heap_other (w := A4.drew) hk
     have hd : J q2 A4.drew := hJ _ _ _ i1c (quiet_below ((Below.refl _ A4).drew))
     refine ⟨hJ _ _ _ hd (quiet_put (A := A4.drew) i5c (by omega) rfl _), (hne _ (by omega)).trans i2c, (hne _ (by omega)).trans i3c, (hne _ (by omega)).trans i4c, World.putObj_heap_same (w := A4.drew) (Array.getElem?_eq_some_iff.1 i5c).1, (hne _ (by omega)).trans i6c, ?_⟩
     exact ⟨Nat.le_trans i7c.size (by rw [World.putObj_size]; exact Nat.le_refl _), fun k o hk he ho => by rw [hne k (by omega)]; exact i7c.same k o hk he ho⟩
   have FIN := hide finish
   clear finish
   by_cases hlt : f < at_
   · rw [if_pos hlt] at HP
     obtain ⟨fn, tmps, assign, body, hy, hR⟩ := yield_any (n - 1 - 1 - 1) (hY q ((f, at_ - 1), m) A1 k1 HP.out)
     simp only [encQ] at hy
     have c2 := k2.cell
     have c3 := k3.cell
     have c4 := k4.cell
     have hd : decide (f < at_) = true := by simpa using hlt
     gi_wp2
     refine RoundIn.mono (F := Fence.wide.inRound (wB.heap.size + 1)) hR ?_
     rintro e W4 ⟨rfl, hJ4, hk4⟩
     have m2 : Boxed W4 W.heap.size 180 (.func (.yield l) #[] #[]) := hk4.same _ _ k2 (Nat.le_refl _) rfl
     have m3 : Boxed W4 (W.heap.size + 1) 21 (.int .i32 f) := hk4.same _ _ k3 (by omega) rfl
     have m4 : Boxed W4 (W.heap.size + 1 + 1) 141 (.int .u64 (m : Int)) := hk4.same _ _ k4 (by omega) rfl
     have hf := FIN.out W4 _ hJ4 m2 m3 m4 (hk4.same _ _ k5.out (by omega) rfl) (hk4.same _ _ k6.out (by omega) rfl) (hkA.trans (hk4.mono (by omega)))
     have hs40 := ((m4.other (B' := W.heap.size + 1) (by omega) (.int .i32 at_))).cell
     have hs40f := ((m4.other (B' := W.heap.size + 1) (by omega) (.int .i32 at_))).frozen
     have d3 := m3.cell
     have d4 := m4.cell
     have e3 := m3.frozen
     have e4 := m4.frozen
     clear c2 c3 c4 k1 k2 k3 k4 k5 k6 hkA hk4 hJ4 hy hR FIN m2 m3 m4 hY
     gi_wp2
     generalize hX : (m ^^^ t : Nat) = x at *
     have hs4 : (W4.drew.setCell ⟨W.heap.size + 1, 0, none⟩ (.int .i32 at_)).cell? ⟨W.heap.size + 1 + 1, 0, none⟩ = some (.int .u64 (m : Int)) := hs40
     have hs4f : (W4.drew.setCell ⟨W.heap.size + 1, 0, none⟩ (.int .i32 at_)).frozen? ⟨W.heap.size + 1 + 1, 0, none⟩ = false := hs40f
     refine Reg.startR (B := W.heap.size) (by kernel_rfl) (by kernel_rfl) (by rintro ⟨_, _, h⟩; exact h) ?_
     refine Reg.take (fun _ _ _ _ _ h => h) 0 _ 24 (.int .i32 at_) rfl (by kernel_rfl) (by kernel_rfl) (by kernel_rfl) rfl (by kernel_rfl) (by kernel_rfl) (fun _ _ => by kernel_rfl) ?_
     refine Reg.take (fun _ _ _ _ _ h => h) 2 _ 26 (.int .u64 (t : Int)) rfl (by kernel_rfl) (by kernel_rfl) (by kernel_rfl) rfl (by kernel_rfl) (by kernel_rfl) (fun _ _ => by kernel_rfl) ?_
     refine Reg.two 1 4 (by kernel_rfl) ?_ ?_
     · refine Reg.brV 1 _ 25 rfl rfl (by kernel_rfl) (by kernel_rfl) ⟨.int .u64 (m : Int), _, W.heap.size, Reg.ld1 rfl (by kernel_rfl) (show W4.drew.cell? ⟨W.heap.size + 1 + 1, 0, none⟩ = _ from d4) (Tryz.isAgg141 _), Nat.le_refl _, Below.refl _ _, ?_⟩
       refine Reg.take (fun _ _ _ _ _ h => h) 3 _ 27 (.int .u64 (x : Int)) rfl (by kernel_rfl) (by kernel_rfl) (by kernel_rfl) rfl (by kernel_rfl) (by kernel_rfl) (fun _ _ => Reg.xor64 rfl (by kernel_rfl) (by kernel_rfl) hbx) ?_
       refine Reg.one 4 (by kernel_rfl) (Reg.brN 4 _ rfl rfl (by kernel_rfl) (by kernel_rfl) ⟨(W4.drew.setCell ⟨W.heap.size + 1, 0, none⟩ (.int .i32 at_)), W.heap.size, Reg.st1 (v := .int .i32 at_) rfl (by kernel_rfl) (by kernel_rfl) (show W4.drew.cell? ⟨W.heap.size + 1, 0, none⟩ = _ from d3) (show W4.drew.frozen? ⟨W.heap.size + 1, 0, none⟩ = _ from e3) (.inl ⟨_, _, rfl⟩) (Tryz.sizeOf21 _), Nat.le_refl _, (Below.refl _ _).setCell (p := ⟨W.heap.size + 1, 0, none⟩) (by simp) _, ?_⟩)
       refine Reg.one 5 (by kernel_rfl) (Reg.brN 5 _ rfl rfl (by kernel_rfl) (by kernel_rfl) ⟨((W4.drew.setCell ⟨W.heap.size + 1, 0, none⟩ (.int .i32 at_)).setCell ⟨W.heap.size + 1 + 1, 0, none⟩ (.int .u64 (x : Int))), W.heap.size, Reg.st1 (v := .int .u64 (x : Int)) rfl (by kernel_rfl) (by kernel_rfl) hs4 hs4f (.inl ⟨_, _, rfl⟩) (Tryz.sizeOf141 _), Nat.le_refl _, (Below.refl _ _).setCell (p := ⟨W.heap.size + 1 + 1, 0, none⟩) (by simp; omega) _, ?_⟩)
       refine Reg.done (by kernel_rfl) ?_
       refine ⟨hf.out.1, ?_, (hf.out.2 _ rfl).2.2.2.2.2.2⟩
       show J (runP (pre ++ [(at_, t)])).2 _ ∧ _
       rw [HS.out]
       obtain ⟨g1, g2, g3, g4, g5, g6, _⟩ := hf.out.2 _ rfl
       exact ⟨by rw [if_pos hlt]; exact g1, g2, g3, g4, g5, g6⟩
     · refine Reg.brN 4 _ rfl rfl (by kernel_rfl) (by kernel_rfl) ⟨(W4.drew.setCell ⟨W.heap.size + 1, 0, none⟩ (.int .i32 at_)), W.heap.size, Reg.st1 (v := .int .i32 at_) rfl (by kernel_rfl) (by kernel_rfl) (show W4.drew.cell? ⟨W.heap.size + 1, 0, none⟩ = _ from d3) (show W4.drew.frozen? ⟨W.heap.size + 1, 0, none⟩ = _ from e3) (.inl ⟨_, _, rfl⟩) (Tryz.sizeOf21 _), Nat.le_refl _, (Below.refl _ _).setCell (p := ⟨W.heap.size + 1, 0, none⟩) (by simp) _, ?_⟩
       refine Reg.one 1 (by kernel_rfl) (Reg.brV 1 _ 25 rfl rfl (by kernel_rfl) (by kernel_rfl) ⟨.int .u64 (m : Int), _, W.heap.size, Reg.ld1 rfl (by kernel_rfl) hs4 (Tryz.isAgg141 _), Nat.le_refl _, Below.refl _ _, ?_⟩)
       refine Reg.take (fun _ _ _ _ _ h => h) 3 _ 27 (.int .u64 (x : Int)) rfl (by kernel_rfl) (by kernel_rfl) (by kernel_rfl) rfl (by kernel_rfl) (by kernel_rfl) (fun _ _ => Reg.xor64 rfl (by kernel_rfl) (by kernel_rfl) hbx) ?_
       refine Reg.one 5 (by kernel_rfl) (Reg.brN 5 _ rfl rfl (by kernel_rfl) (by kernel_rfl) ⟨((W4.drew.setCell ⟨W.heap.size + 1, 0, none⟩ (.int .i32 at_)).setCell ⟨W.heap.size + 1 + 1, 0, none⟩ (.int .u64 (x : Int))), W.heap.size, Reg.st1 (v := .int .u64 (x : Int)) rfl (by kernel_rfl) (by kernel_rfl) hs4 hs4f (.inl ⟨_, _, rfl⟩) (Tryz.sizeOf141 _), Nat.le_refl _, (Below.refl _ _).setCell (p := ⟨W.heap.size + 1 + 1, 0, none⟩) (by simp; omega) _, ?_⟩)
       refine Reg.done (by kernel_rfl) ?_
       refine ⟨hf.out.1, ?_, (hf.out.2 _ rfl).2.2.2.2.2.2⟩
       show J (runP (pre ++ [(at_, t)])).2 _ ∧ _
       rw [HS.out]
       obtain ⟨g1, g2, g3, g4, g5, g6, _⟩ := hf.out.2 _ rfl
       exact ⟨by rw [if_pos hlt]; exact g1, g2, g3, g4, g5, g6⟩
   · have hle : at_ ≤ f := by omega
     have hd : decide (f < at_) = false := by simpa using hle
     have hf := FIN.out A1 _ k1 k2 k3 k4 k5.out k6.out hkA
     have hs40 := ((k4.other (B' := W.heap.size + 1) (by omega) (.int .i32 at_))).cell
     have hs40f := ((k4.other (B' := W.heap.size + 1) (by omega) (.int .i32 at_))).frozen
     have d3 := k3.cell
     have d4 := k4.cell
     have e3 := k3.frozen
     have e4 := k4.frozen
     clear k1 k2 k5 k6 hkA FIN k3 k4 hY
     gi_wp2
     refine ⟨fun _ h => (by cases h), ?_⟩
     gi_wp2
     generalize hX : (m ^^^ t : Nat) = x at *
     have hs4 : (A1.drew.setCell ⟨W.heap.size + 1, 0, none⟩ (.int .i32 at_)).cell? ⟨W.heap.size + 1 + 1, 0, none⟩ = some (.int .u64 (m : Int)) := hs40
     have hs4f : (A1.drew.setCell ⟨W.heap.size + 1, 0, none⟩ (.int .i32 at_)).frozen? ⟨W.heap.size + 1 + 1, 0, none⟩ = false := hs40f
     refine Reg.startR (B := W.heap.size) (by kernel_rfl) (by kernel_rfl) (by rintro ⟨_, _, h⟩; exact h) ?_
     refine Reg.take (fun _ _ _ _ _ h => h) 0 _ 24 (.int .i32 at_) rfl (by kernel_rfl) (by kernel_rfl) (by kernel_rfl) rfl (by kernel_rfl) (by kernel_rfl) (fun _ _ => by kernel_rfl) ?_
     refine Reg.take (fun _ _ _ _ _ h => h) 2 _ 26 (.int .u64 (t : Int)) rfl (by kernel_rfl) (by kernel_rfl) (by kernel_rfl) rfl (by kernel_rfl) (by kernel_rfl) (fun _ _ => by kernel_rfl) ?_
     refine Reg.two 1 4 (by kernel_rfl) ?_ ?_
     · refine Reg.brV 1 _ 25 rfl rfl (by kernel_rfl) (by kernel_rfl) ⟨.int .u64 (m : Int), _, W.heap.size, Reg.ld1 rfl (by kernel_rfl) (show A1.drew.cell? ⟨W.heap.size + 1 + 1, 0, none⟩ = _ from d4) (Tryz.isAgg141 _), Nat.le_refl _, Below.refl _ _, ?_⟩
       refine Reg.take (fun _ _ _ _ _ h => h) 3 _ 27 (.int .u64 (x : Int)) rfl (by kernel_rfl) (by kernel_rfl) (by kernel_rfl) rfl (by kernel_rfl) (by kernel_rfl) (fun _ _ => Reg.xor64 rfl (by kernel_rfl) (by kernel_rfl) hbx) ?_
       refine Reg.one 4 (by kernel_rfl) (Reg.brN 4 _ rfl rfl (by kernel_rfl) (by kernel_rfl) ⟨(A1.drew.setCell ⟨W.heap.size + 1, 0, none⟩ (.int .i32 at_)), W.heap.size, Reg.st1 (v := .int .i32 at_) rfl (by kernel_rfl) (by kernel_rfl) (show A1.drew.cell? ⟨W.heap.size + 1, 0, none⟩ = _ from d3) (show A1.drew.frozen? ⟨W.heap.size + 1, 0, none⟩ = _ from e3) (.inl ⟨_, _, rfl⟩) (Tryz.sizeOf21 _), Nat.le_refl _, (Below.refl _ _).setCell (p := ⟨W.heap.size + 1, 0, none⟩) (by simp) _, ?_⟩)
       refine Reg.one 5 (by kernel_rfl) (Reg.brN 5 _ rfl rfl (by kernel_rfl) (by kernel_rfl) ⟨((A1.drew.setCell ⟨W.heap.size + 1, 0, none⟩ (.int .i32 at_)).setCell ⟨W.heap.size + 1 + 1, 0, none⟩ (.int .u64 (x : Int))), W.heap.size, Reg.st1 (v := .int .u64 (x : Int)) rfl (by kernel_rfl) (by kernel_rfl) hs4 hs4f (.inl ⟨_, _, rfl⟩) (Tryz.sizeOf141 _), Nat.le_refl _, (Below.refl _ _).setCell (p := ⟨W.heap.size + 1 + 1, 0, none⟩) (by simp; omega) _, ?_⟩)
       refine Reg.done (by kernel_rfl) ?_
       refine ⟨hf.out.1, ?_, (hf.out.2 _ rfl).2.2.2.2.2.2⟩
       show J (runP (pre ++ [(at_, t)])).2 _ ∧ _
       rw [HS.out]
       obtain ⟨g1, g2, g3, g4, g5, g6, _⟩ := hf.out.2 _ rfl
       exact ⟨by rw [if_neg (by omega), List.append_nil]; exact g1, g2, g3, g4, g5, g6⟩
     · refine Reg.brN 4 _ rfl rfl (by kernel_rfl) (by kernel_rfl) ⟨(A1.drew.setCell ⟨W.heap.size + 1, 0, none⟩ (.int .i32 at_)), W.heap.size, Reg.st1 (v := .int .i32 at_) rfl (by kernel_rfl) (by kernel_rfl) (show A1.drew.cell? ⟨W.heap.size + 1, 0, none⟩ = _ from d3) (show A1.drew.frozen? ⟨W.heap.size + 1, 0, none⟩ = _ from e3) (.inl ⟨_, _, rfl⟩) (Tryz.sizeOf21 _), Nat.le_refl _, (Below.refl _ _).setCell (p := ⟨W.heap.size + 1, 0, none⟩) (by simp) _, ?_⟩
       refine Reg.one 1 (by kernel_rfl) (Reg.brV 1 _ 25 rfl rfl (by kernel_rfl) (by kernel_rfl) ⟨.int .u64 (m : Int), _, W.heap.size, Reg.ld1 rfl (by kernel_rfl) hs4 (Tryz.isAgg141 _), Nat.le_refl _, Below.refl _ _, ?_⟩)
       refine Reg.take (fun _ _ _ _ _ h => h) 3 _ 27 (.int .u64 (x : Int)) rfl (by kernel_rfl) (by kernel_rfl) (by kernel_rfl) rfl (by kernel_rfl) (by kernel_rfl) (fun _ _ => Reg.xor64 rfl (by kernel_rfl) (by kernel_rfl) hbx) ?_
       refine Reg.one 5 (by kernel_rfl) (Reg.brN 5 _ rfl rfl (by kernel_rfl) (by kernel_rfl) ⟨((A1.drew.setCell ⟨W.heap.size + 1, 0, none⟩ (.int .i32 at_)).setCell ⟨W.heap.size + 1 + 1, 0, none⟩ (.int .u64 (x : Int))), W.heap.size, Reg.st1 (v := .int .u64 (x : Int)) rfl (by kernel_rfl) (by kernel_rfl) hs4 hs4f (.inl ⟨_, _, rfl⟩) (Tryz.sizeOf141 _), Nat.le_refl _, (Below.refl _ _).setCell (p := ⟨W.heap.size + 1 + 1, 0, none⟩) (by simp; omega) _, ?_⟩)
       refine Reg.done (by kernel_rfl) ?_
       refine ⟨hf.out.1, ?_, (hf.out.2 _ rfl).2.2.2.2.2.2⟩
       show J (runP (pre ++ [(at_, t)])).2 _ ∧ _
       rw [HS.out]
       obtain ⟨g1, g2, g3, g4, g5, g6, _⟩ := hf.out.2 _ rfl
       exact ⟨by rw [if_neg (by omega), List.append_nil]; exact g1, g2, g3, g4, g5, g6⟩
 · rintro e W9 ⟨⟨v, rfl⟩, j1, j2, j3, j4, j5, j6⟩
   refine ⟨⟨v, rfl⟩, j5, fun r' => ?_⟩
   have hbp := runP_bounds (zs := endsZ ls) hz
   have HPC : Hid (pieces (endsZ ls) = (runP (endsZ ls)).2 ++ if (runP (endsZ ls)).1.1 ≤ 1114111 then [(((runP (endsZ ls)).1.1, 1114111), (runP (endsZ ls)).1.2)] else []) := hide rfl
   have hne : ∀ k, k ≠ wB.heap.size + 1 → (W9.putObj (wB.heap.size + 1) (.loop r')).heap[k]? = W9.heap[k]? := fun k hk => World.putObj_heap_other hk
   have k1 := hJ _ W9 _ j1 (quiet_put (e := W.heap.size) j5 (by omega) rfl (.loop r'))
   have k2 : Boxed (W9.putObj (wB.heap.size + 1) (.loop r')) W.heap.size 180 (.func (.yield l) #[] #[]) := (hne _ (by omega)).trans j2
   have k3 : Boxed (W9.putObj (wB.heap.size + 1) (.loop r')) (W.heap.size + 1) 21 (.int .i32 (runP (endsZ ls)).1.1) := (hne _ (by omega)).trans j3
   have k4 : Boxed (W9.putObj (wB.heap.size + 1) (.loop r')) (W.heap.size + 1 + 1) 141 (.int .u64 ((runP (endsZ ls)).1.2 : Int)) := (hne _ (by omega)).trans j4
   have k6 : Hid ((W9.putObj (wB.heap.size + 1) (.loop r')).heap[wB.heap.size]? = some (.deferred (some []))) := (hne _ (by omega)).trans j6
   clear j1 j2 j3 j4 j5 j6 hne bY bF bI bS h0
   generalize W9.putObj (wB.heap.size + 1) (.loop r') = X at *
   generalize (runP (endsZ ls)).1.1 = f at *
   generalize (runP (endsZ ls)).1.2 = m at *
   generalize (runP (endsZ ls)).2 = q at *
   have c2 := k2.cell
   have c3 := k3.cell
   have c4 := k4.cell
   by_cases hle : f ≤ 1114111
   · rw [if_pos hle] at HPC
     obtain ⟨fn, tmps, assign, body, hy, hR⟩ := hY q ((f, 1114111), m) X k1 (by rw [HPC.out]; exact List.prefix_refl _)
     simp only [encQ] at hy
     gi_wp2
     refine hR.mono ?_
     rintro e W4 ⟨rfl, hJ4, hk4⟩
     rw [← HPC.out] at hJ4
     have hK := hk4.same _ _ k6.out (by omega) rfl
     clear hy hR c2 c3 c4 hk4 k1 k2 k3 k4 k6
     gi_wp2
     refine ⟨by simp, .inl ⟨_, _, rfl, run_takeDeferred hK, ?_⟩⟩
     exact ⟨_, results_none rfl _ _ _, ⟨_, rfl⟩, hJ _ _ _ hJ4 (quiet_put hK (by omega) rfl _)⟩
   · have hle2 : 1114112 ≤ f := by omega
     rw [if_neg hle, List.append_nil] at HPC
     have hK := k6.out
     rw [← HPC.out] at k1
     gi_wp2
     refine ⟨by simp, .inl ⟨_, _, rfl, run_takeDeferred hK, ?_⟩⟩
     exact ⟨_, results_none rfl _ _ _, ⟨_, rfl⟩, hJ _ _ _ k1 (quiet_put hK (by omega) rfl _)⟩
end Go.Proofs.YtgngaldoemopjaaGreatDoor.U
namespace Go.Proofs.YtgngaldoemopjaaGreatDoor.U
open Go.RowKit Go.Shelf
theorem idx_in {ms l : List Nat} {m : Nat} (h : m ∈ ms) : (ms ++ l).idxOf m = ms.idxOf m := by rw [List.idxOf_append, if_pos h]
theorem idx_new {ms : List Nat} {m : Nat} (h : m ∉ ms) : (ms ++ [m]).idxOf m = ms.length := by rw [List.idxOf_append, if_neg h]; simp
def msOf (pre : List (S.R × Nat)) : List Nat := pre.foldl (fun ms p => if p.2 ∈ ms then ms else ms ++ [p.2]) []
theorem msOf_snoc (pre : List (S.R × Nat)) (x : S.R × Nat) : msOf (pre ++ [x]) = if x.2 ∈ msOf pre then msOf pre else msOf pre ++ [x.2] := by
 unfold msOf
 rw [List.foldl_append]
 rfl
def setsOf (pre : List (S.R × Nat)) (m : Nat) : List S.R := (pre.filter fun p => p.2 == m).map (·.1)
theorem setsOf_snoc (pre : List (S.R × Nat)) (x : S.R × Nat) (m : Nat) : setsOf (pre ++ [x]) m = if m = x.2 then setsOf pre m ++ [x.1] else setsOf pre m := by
 unfold setsOf
 rw [List.filter_append, List.map_append]
 by_cases h : m = x.2
 · simp [h]
 · have : ¬ x.2 = m := fun e => h e.symm
   simp [h, this]
def psOf (ms : List Nat) (pre : List (S.R × Nat)) : List (Int × Nat) := pre.map fun p => (p.1.1, ms.idxOf p.2)
theorem msOf_mem (pre : List (S.R × Nat)) (m : Nat) : m ∈ msOf pre ↔ ∃ p ∈ pre, p.2 = m := by
 rcases List.eq_nil_or_concat pre with rfl | ⟨pre', x, rfl⟩
 · simp [msOf]
 · rw [List.concat_eq_append, msOf_snoc]
   have ih := msOf_mem pre' m
   have hx : (∃ p ∈ pre' ++ [x], p.2 = m) ↔ (∃ p ∈ pre', p.2 = m) ∨ x.2 = m := by
     constructor
     · rintro ⟨p, hp, h⟩
       rcases List.mem_append.1 hp with h1 | h1
       · exact .inl ⟨p, h1, h⟩
       · obtain rfl : p = x := by simpa using h1
         exact .inr h
     · rintro (⟨p, hp, h⟩ | h)
       · exact ⟨p, by simp [hp], h⟩
       · exact ⟨x, by simp, h⟩
   rw [hx, ← ih]
   by_cases h : x.2 ∈ msOf pre'
   · rw [if_pos h]
     constructor
     · exact .inl
     · rintro (h1 | rfl)
       · exact h1
       · exact h
   · rw [if_neg h]
     simp [eq_comm]
termination_by pre.length
decreasing_by simp_all
theorem msOf_nodup (pre : List (S.R × Nat)) : (msOf pre).Nodup := by
 rcases List.eq_nil_or_concat pre with rfl | ⟨pre', x, rfl⟩
 · simp [msOf]
 · rw [List.concat_eq_append, msOf_snoc]
   have ih := msOf_nodup pre'
   by_cases h : x.2 ∈ msOf pre'
   · rw [if_pos h]; exact ih
   · rw [if_neg h]
     refine List.nodup_append.2 ⟨ih, by simp, ?_⟩
     intro a ha b hb e
     obtain rfl : b = x.2 := by simpa using hb
     exact h (e ▸ ha)
termination_by pre.length
decreasing_by simp_all
theorem msOf_length (pre : List (S.R × Nat)) : (msOf pre).length ≤ pre.length := by
 rcases List.eq_nil_or_concat pre with rfl | ⟨pre', x, rfl⟩
 · simp [msOf]
 · rw [List.concat_eq_append, msOf_snoc]
   have ih := msOf_length pre'
   split <;> simp <;> omega
termination_by pre.length
decreasing_by simp_all
theorem psOf_snoc (pre : List (S.R × Nat)) (x : S.R × Nat) : psOf (msOf (pre ++ [x])) (pre ++ [x]) = psOf (msOf pre) pre ++ [(x.1.1, (msOf (pre ++ [x])).idxOf x.2)] := by
 have hold : psOf (msOf (pre ++ [x])) pre = psOf (msOf pre) pre := by
   unfold psOf
   refine List.map_congr_left fun p hp => ?_
   have hm : p.2 ∈ msOf pre := (msOf_mem pre p.2).2 ⟨p, hp, rfl⟩
   rw [msOf_snoc]
   split
   · rfl
   · rw [idx_in hm]
 conv => lhs; unfold psOf
 rw [List.map_append]
 change psOf _ pre ++ _ = _
 rw [hold]
 rfl
def cP (ps : List (Int × Nat)) : List Value := ps.flatMap fun p => [.int .i32 p.1, .int .i64 (p.2 : Int)]
def cC (cs : List (Nat × Value)) : List Value := cs.flatMap fun p => [.int .u64 (p.1 : Int), p.2]
theorem cP_snoc (ps : List (Int × Nat)) (x : Int × Nat) : cP (ps ++ [x]) = cP ps ++ [.int .i32 x.1, .int .i64 (x.2 : Int)] := by simp [cP]
theorem cC_snoc (cs : List (Nat × Value)) (x : Nat × Value) : cC (cs ++ [x]) = cC cs ++ [.int .u64 (x.1 : Int), x.2] := by simp [cC]
theorem cC_at (cs : List (Nat × Value)) (k : Nat) (h : k < cs.length) : (cC cs)[k * 2]? = some (.int .u64 (cs[k].1 : Int)) ∧ (cC cs)[k * 2 + 1]? = some cs[k].2 := by
 induction cs generalizing k with
 | nil => simp at h
 | cons x cs ih =>
   cases k with
   | zero => simp [cC]
   | succ k =>
     have := ih k (by simpa using h)
     unfold cC at this ⊢
     rw [List.flatMap_cons, show (k + 1) * 2 = k * 2 + 2 by omega, show k * 2 + 2 + 1 = (k * 2 + 1) + 2 by omega]
     simpa using this
theorem cC_set (cs : List (Nat × Value)) (k : Nat) (h : k < cs.length) (v : Value) : (cC cs).set (k * 2 + 1) v = cC (cs.set k (cs[k].1, v)) := by
 induction cs generalizing k with
 | nil => simp at h
 | cons x cs ih =>
   cases k with
   | zero => simp [cC]
   | succ k =>
     have := ih k (by simpa using h)
     unfold cC at this ⊢
     rw [show (k + 1) * 2 + 1 = (k * 2 + 1) + 2 by omega]
     simpa using this
def fM (ms : List Nat) : Int → Option Int := fun x => if 0 ≤ x ∧ x.toNat ∈ ms then some (ms.idxOf x.toNat : Int) else none
theorem fM_nil : fM [] = fun _ => none := by funext x; simp [fM]
theorem fM_snoc (ms : List Nat) (m : Nat) (h : m ∉ ms) : upd (fM ms) (m : Int) (ms.length : Int) = fM (ms ++ [m]) := by
 funext x
 unfold upd fM
 by_cases hx : x = (m : Int)
 · subst hx
   simp [idx_new h]
 · rw [if_neg hx]
   by_cases h0 : 0 ≤ x
   · have hne : x.toNat ≠ m := fun e => hx (by omega)
     by_cases hm : x.toNat ∈ ms
     · simp [h0, hm, idx_in hm]
     · simp [h0, hm, hne]
   · simp [h0]
theorem fM_at (ms : List Nat) (m : Nat) : fM ms (m : Int) = if m ∈ ms then some (ms.idxOf m : Int) else none := by
 unfold fM
 simp
theorem own_tag {A : World} {b e s n : Nat} {v : Value} {xs : List Value} (h : A.ownsRow b e s v n xs) {g : Nat} (hg : v.ownBlock = some g) : ∃ cur, A.heap[g]? = some (.cells cur e (0, 0)) := by
 obtain ⟨_, ⟨hv, _⟩ | ⟨g', cap, cur, rfl, _, hg', _⟩⟩ := h
 · rw [hv] at hg; cases hg
 · cases hg
   exact ⟨cur, hg'⟩
theorem own_same {A B : World} {b e s n : Nat} {v : Value} {xs : List Value} (h : A.ownsRow b e s v n xs) (hs : ∀ g, v.ownBlock = some g → B.heap[g]? = A.heap[g]?) : B.ownsRow b e s v n xs := by
 obtain ⟨h1, h2 | ⟨g', cap, cur, rfl, h3, hg', h4⟩⟩ := h
 · exact ⟨h1, .inl h2⟩
 · exact ⟨h1, .inr ⟨g', cap, cur, rfl, h3, (hs g' rfl).trans hg', h4⟩⟩
structure Sx (w : World) (e0 n nm : Nat) (f : Int → Option Int) (cs : List (Nat × Value)) (sets : Nat → List S.R) (ps : List (Int × Nat)) (vcl vps : Value) (A : World) : Prop where
 below : Below w.heap.size w A
 st : A.heap[w.heap.size]? = some (.cells #[.int .i64 (n : Int), vcl, vps] 69 (0, 0))
 bx : A.heap[w.heap.size + 1]? = some (.cells #[.pointer (some ⟨w.heap.size, 0, none⟩)] 91 (0, 0))
 mb : A.heap[w.heap.size + 3]? = some (.cells #[.map (some (w.heap.size + 2))] 135 (0, 0))
 mp : Mp A 141 .u64 3 .i64 (w.heap.size + 2) nm f
 rc : A.ownsRow e0 143 2 vcl cs.length (cC cs)
 rp : A.ownsRow e0 123 2 vps ps.length (cP ps)
 rs : ∀ i (h : i < cs.length), OwnR A e0 140 cs[i].2 (sets cs[i].1)
 dj : ∀ i j (hi : i < cs.length) (hj : j < cs.length), i ≠ j → cs[i].2.ownBlock = none ∨ cs[i].2.ownBlock ≠ cs[j].2.ownBlock
 le : e0 ≤ A.heap.size
section
variable {w : World} {e0 n nm : Nat} {f : Int → Option Int} {cs : List (Nat × Value)} {sets : Nat → List S.R} {ps : List (Int × Nat)} {vcl vps : Value} {A B : World}
theorem own_quiet {b e s n q : Nat} {v : Value} {xs : List Value} (h : A.ownsRow b e s v n xs) (hq : Quiet q A B) (ht : (e == 143 || e == 123 || e == 140) = true) : B.ownsRow b e s v n xs :=
 own_same h fun g hg => by
   obtain ⟨cur, hc⟩ := own_tag h hg
   rw [hc]
   exact hq.same g _ hc (.inr ht)
theorem Sx.quiet (h : Sx w e0 n nm f cs sets ps vcl vps A) (hq : Quiet (w.heap.size + 4) A B) : Sx w e0 n nm f cs sets ps vcl vps B := by
 have hsz := h.below.size
 refine ⟨⟨hq.os.trans h.below.os, hq.tape.trans h.below.tape, hq.output.trans h.below.output, Nat.le_trans hsz hq.size, fun k hk => ?_⟩, hq.same _ _ h.st (.inl (by omega)), hq.same _ _ h.bx (.inl (by omega)), hq.same _ _ h.mb (.inl (by omega)), ?_, own_quiet h.rc hq rfl, own_quiet h.rp hq rfl, fun i hi => own_quiet (h.rs i hi) hq rfl, h.dj, Nat.le_trans h.le hq.size⟩
 · have h1 := h.below.block k hk
   have h2 := Array.getElem?_eq_getElem hk
   rw [h2] at h1 ⊢
   exact hq.same k _ h1 (.inl (by omega))
 · obtain ⟨es, c, hm⟩ := h.mp.isMap
   exact h.mp.kept ((hq.same _ _ hm (.inl (by omega))).trans hm.symm)
end
def Step (s rb : Nat) (A B : World) : Prop := Chg (fun k => k = s ∨ k = s + 2 ∨ ∃ o, A.heap[k]? = some o ∧ Tg o = true ∧ k ≠ rb) A B
theorem Step.trans {s rb : Nat} {A B C : World} (h : Step s rb A B) (h2 : Step s rb B C) : Step s rb A C :=
 ⟨h2.os.trans h.os, h2.tape.trans h.tape, h2.output.trans h.output, Nat.le_trans h.size h2.size, fun k hk hp => by
   have e1 := h.block k hk hp
   refine (h2.block k (Nat.lt_of_lt_of_le hk h.size) ?_).trans e1
   rw [e1]
   exact hp⟩
theorem Step.same {s rb : Nat} {A B : World} (h : Step s rb A B) {k : Nat} {o : Obj} (hk : A.heap[k]? = some o) (h1 : k ≠ s) (h2 : k ≠ s + 2) (ho : Tg o = false ∨ k = rb) : B.heap[k]? = some o := by
 rw [h.block k (Array.getElem?_eq_some_iff.1 hk).1 ?_]
 · exact hk
 · rintro (e | e | ⟨o', h3, h4, h5⟩)
   · exact h1 e
   · exact h2 e
   · rw [hk] at h3
     cases h3
     rcases ho with ho | ho
     · rw [ho] at h4; cases h4
     · exact h5 ho
theorem Step.kept {s rb e : Nat} {A B : World} (h : Step s rb A B) (he : s + 2 < e) : Kept e A B :=
 ⟨h.size, fun k o hk h1 h2 => h.same hk (by omega) (by omega) (.inl h2)⟩
end Go.Proofs.YtgngaldoemopjaaGreatDoor.U
