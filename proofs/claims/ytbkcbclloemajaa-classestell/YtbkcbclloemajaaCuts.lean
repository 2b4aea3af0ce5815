/- The iterator over pieces. -/
import Derived.Test.YtbkcbclloemajaaEndsw
namespace Go.Proofs.Ytbkcbclloemajaa
open Go.RowKit Go.Shelf
attribute [local go_sem] Oper.semAt_some

/-- Where a piece begins, and which sets have it; the pieces so far. -/
def runP (zs : List (Int × Nat)) : (Int × Nat) × List (S.R × Nat) :=
  zs.foldl (fun s p => ((p.1, s.1.2 ^^^ p.2), s.2 ++ if s.1.1 < p.1 then [((s.1.1, p.1 - 1), s.1.2)] else [])) ((0, 0), [])
theorem runP_snoc (zs : List (Int × Nat)) (a : Int) (t : Nat) : runP (zs ++ [(a, t)]) = ((a, (runP zs).1.2 ^^^ t), (runP zs).2 ++ if (runP zs).1.1 < a then [(((runP zs).1.1, a - 1), (runP zs).1.2)] else []) := by
  unfold runP
  rw [List.foldl_append]
  rfl
def pieces (zs : List (Int × Nat)) : List (S.R × Nat) := (runP zs).2 ++ if (runP zs).1.1 ≤ 1114111 then [(((runP zs).1.1, 1114111), (runP zs).1.2)] else []
def encQ (p : S.R × Nat) : Array Value := #[.agg #[.int .i32 p.1.1, .int .i32 p.1.2], .int .u64 (p.2 : Int)]
theorem runP_bounds {zs : List (Int × Nat)} (h : ∀ p ∈ zs, 0 ≤ p.1 ∧ p.1 ≤ 1114112 ∧ p.2 < 2 ^ 64) : 0 ≤ (runP zs).1.1 ∧ (runP zs).1.1 ≤ 1114112 ∧ (runP zs).1.2 < 2 ^ 64 := by
  rcases List.eq_nil_or_concat zs with rfl | ⟨zs', ⟨a, t⟩, rfl⟩
  · simp [runP]
  · rw [List.concat_eq_append] at h ⊢
    rw [runP_snoc]
    have h1 := h (a, t) (by simp)
    have ih := runP_bounds (zs := zs') (fun p hp => h p (by simp [hp]))
    exact ⟨h1.1, h1.2.1, Nat.xor_lt_two_pow ih.2.2 h1.2.2⟩
termination_by zs.length
decreasing_by simp_all
theorem runP_prefix (zs ys : List (Int × Nat)) : (runP zs).2 <+: (runP (zs ++ ys)).2 := by
  rcases List.eq_nil_or_concat ys with rfl | ⟨ys', ⟨a, t⟩, rfl⟩
  · simp
  · rw [List.concat_eq_append, ← List.append_assoc, runP_snoc]
    exact (runP_prefix zs ys').trans (List.prefix_append _ _)
termination_by ys.length
decreasing_by simp_all
theorem endsZ_in (ls : List L3) (hl : ls.length ≤ 64) : ∀ p ∈ endsZ ls, 0 ≤ p.1 ∧ p.1 ≤ 1114112 ∧ p.2 < 2 ^ 64 := by
  intro p hp
  obtain ⟨k, hk, rfl⟩ := List.mem_map.1 hp
  obtain ⟨i, hi⟩ := (ksOf_mem _ _).1 hk
  have := evT_in hi
  exact ⟨this.1, this.2, evN_lt _ 64 (fun q hq => by have := evT_lt hq; omega) _⟩

set_option maxHeartbeats 1000000 in
theorem endsMake_any (sao : Option Addr) (len cap : Nat) (w : World) :
    Calls Try.prog 43 #[.slice sao len cap] w fun e w' => e = .returned (.func (.func 49) #[] #[.pointer (some ⟨w.heap.size, 0, none⟩)]) ∧ w' = w.alloc (.cells #[.slice sao len cap] 22) := by
  go_enter Try.func43, Try.ntmps43
  go_wp2
  go_ret
  exact ⟨rfl, rfl⟩
set_option maxHeartbeats 1000000 in
theorem cutsMake_any (sao : Option Addr) (len cap : Nat) (w : World) :
    Calls Try.prog 25 #[.slice sao len cap] w fun e w' => e = .returned (.func (.func 42) #[] #[.pointer (some ⟨w.heap.size, 0, none⟩)]) ∧ w' = w.alloc (.cells #[.slice sao len cap] 22) := by
  go_enter Try.func25, Try.ntmps25
  go_wp2
  go_ret
  exact ⟨rfl, rfl⟩

set_option maxRecDepth 100000 in
set_option maxHeartbeats 8000000 in
theorem cuts1_in (n : Nat) (hn : 4 ≤ n) (Bn cap : Nat) (sao : Option Addr) (ls : List L3) (hl : ls.length ≤ 64) (hl2 : ∀ p ∈ ls, p.2.2.length ≤ 5000) (l : Nat) (J : List (S.R × Nat) → World → Prop) (W : World)
    (hbox : W.cell? ⟨Bn, 0, none⟩ = some (.slice sao ls.length cap)) (hrd : RdS W sao ls) (hJ : ∀ s A B, J s A → Quiet W.heap.size A B → J s B)
    (hY : ∀ pre x W1, J pre W1 → pre ++ [x] <+: pieces (endsZ ls) → YieldAt Fence.wide (n - 1) Try.prog l (encQ x) W1 fun e W' => e = .returned (.bool true) ∧ J (pre ++ [x]) W' ∧ Kept W.heap.size W1 W') (h0 : J [] W) :
    CallsIn Fence.wide n Try.prog 42 #[.func (.yield l) #[] #[], .pointer (some ⟨Bn, 0, none⟩)] W fun e W' => (∃ v, e = .returned v) ∧ J (pieces (endsZ ls)) W' := by
  refine callsIn_of_wp_marks Try.func42 rfl trivial ?_ rfl
  simp only [Try.ntmps42, List.size_toArray, List.length_cons, List.length_nil, Nat.reduceAdd, Nat.reduceSub, Array.replicate_succ, Array.replicate_zero, List.push_toArray, List.append_toArray, List.nil_append, List.cons_append]
  have hb1 := al1 W (.cells #[.func (.yield l) #[] #[]] 87)
  have hb2 := al1 (W.alloc (.cells #[.func (.yield l) #[] #[]] 87)) (.cells #[.int .i32 0] 21)
  have hb3 := al1 ((W.alloc (.cells #[.func (.yield l) #[] #[]] 87)).alloc (.cells #[.int .i32 0] 21)) (.cells #[.int .u64 0] 60)
  have hbox3 := cell_later (nx (nx hb1 hb2) hb3) hbox
  have hn1 : 1 ≤ n := by omega
  have hn2 : 1 ≤ n - 1 - 1 := by omega
  have hn3 : 1 ≤ n - 1 := by omega
  gi_wp2_with (refine ⟨trivial, ?_⟩; gi_at_call 43; refine (callsIn_wide.2 (endsMake_any sao ls.length cap _)).mono ?_; rintro e w2 ⟨rfl, rfl⟩)
  have bY := Boxed.new W 87 (.func (.yield l) #[] #[])
  have bF := Boxed.new (W.alloc (.cells #[.func (.yield l) #[] #[]] 87)) 21 (.int .i32 0)
  have bI := Boxed.new ((W.alloc (.cells #[.func (.yield l) #[] #[]] 87)).alloc (.cells #[.int .i32 0] 21)) 60 (.int .u64 0)
  have bS := Boxed.new (((W.alloc (.cells #[.func (.yield l) #[] #[]] 87)).alloc (.cells #[.int .i32 0] 21)).alloc (.cells #[.int .u64 0] 60)) 22 (.slice sao ls.length cap)
  have hb4 := al1 (((W.alloc (.cells #[.func (.yield l) #[] #[]] 87)).alloc (.cells #[.int .i32 0] 21)).alloc (.cells #[.int .u64 0] 60)) (.cells #[.slice sao ls.length cap] 22)
  have hbB := nx (nx (nx hb1 hb2) hb3) hb4
  replace bY := ((bY.alloc (.cells #[.int .i32 0] 21)).alloc (.cells #[.int .u64 0] 60)).alloc (.cells #[.slice sao ls.length cap] 22)
  replace bF := (bF.alloc (.cells #[.int .u64 0] 60)).alloc (.cells #[.slice sao ls.length cap] 22)
  replace bI := bI.alloc (.cells #[.slice sao ls.length cap] 22)
  have hszB : ((((W.alloc (.cells #[.func (.yield l) #[] #[]] 87)).alloc (.cells #[.int .i32 0] 21)).alloc (.cells #[.int .u64 0] 60)).alloc (.cells #[.slice sao ls.length cap] 22)).heap.size = W.heap.size + 4 := by simp
  simp only [World.size_alloc] at bF bI bS
  have hb5 : W.heap.size + 1 + 1 + 1 = W.heap.size + 3 := rfl
  clear hb1 hb2 hb3 hb4 hbox3 hb5
  obtain ⟨wB, hwB⟩ : ∃ wB, (((W.alloc (.cells #[.func (.yield l) #[] #[]] 87)).alloc (.cells #[.int .i32 0] 21)).alloc (.cells #[.int .u64 0] 60)).alloc (.cells #[.slice sao ls.length cap] 22) = wB := ⟨_, rfl⟩
  rw [hwB] at bY bF bI bS hbB hszB ⊢
  clear hwB
  have hz := endsZ_in ls hl
  refine enter_law2 (gf := 49) (lb := #[.pointer (some ⟨W.heap.size + 1 + 1 + 1, 0, none⟩)]) rfl (enters_of Try.func49 (by kernel_rfl) rfl) ?_
  intro r We hr hrec hdef hszE hbE
  have hsB1 : W.heap.size + 4 ≤ wB.heap.size := by omega
  have hsE1 : wB.heap.size + 2 ≤ We.heap.size := by omega
  have hWE := nx hbB hbE
  clear hszB hszE
  refine (ends1_in (n - 1) (by omega) (W.heap.size + 1 + 1 + 1) cap sao ls hl hl2 (wB.heap.size + 1)
    (fun pre A => J (runP pre).2 A ∧ Boxed A W.heap.size 87 (.func (.yield l) #[] #[]) ∧ Boxed A (W.heap.size + 1) 21 (.int .i32 (runP pre).1.1) ∧ Boxed A (W.heap.size + 1 + 1) 60 (.int .u64 ((runP pre).1.2 : Int)) ∧
      A.heap[wB.heap.size + 1]? = some (.loop r) ∧ A.heap[wB.heap.size]? = some (.deferred (some []))) We
    (cell_later hbE bS.cell) (hrd.later hWE) ?stable ?round ?start).mono ?_
  case stable =>
    rintro pre A B ⟨j1, j2, j3, j4, j5, j6⟩ hq
    refine ⟨hJ _ A B j1 (hq.mono (by omega)), hq.same _ _ j2 (.inl (by omega)), hq.same _ _ j3 (.inl (by omega)), hq.same _ _ j4 (.inl (by omega)), hq.same _ _ j5 (.inl (by omega)), hq.same _ _ j6 (.inl (by omega))⟩
  case start =>
    refine ⟨hJ [] W We h0 (quiet_below hWE), ?_, ?_, ?_, hrec.out, hdef.out⟩
    · exact (hbE.block _ bY.lt).trans bY
    · exact (hbE.block _ bF.lt).trans bF
    · exact (hbE.block _ bI.lt).trans bI
  case round =>
    clear bY bF bI bS h0
    rintro pre ⟨at_, t⟩ A ⟨j1, j2, j3, j4, j5, j6⟩ hpre
    have hin : ∀ p ∈ pre ++ [(at_, t)], 0 ≤ p.1 ∧ p.1 ≤ 1114112 ∧ p.2 < 2 ^ 64 := fun p hp => hz p (hpre.subset hp)
    have hbp := runP_bounds (zs := pre) (fun p hp => hin p (by simp [hp]))
    have hat := hin (at_, t) (by simp)
    have HS := hide (runP_snoc pre at_ t)
    have HP : Hid ((runP (pre ++ [(at_, t)])).2 <+: pieces (endsZ ls)) := hide (by
      obtain ⟨ys, hys⟩ := hpre
      rw [pieces, ← hys]
      exact (runP_prefix _ ys).trans (List.prefix_append _ _))
    clear hin hpre
    have hxb : (runP pre).1.2 ^^^ t < 2 ^ 64 := Nat.xor_lt_two_pow hbp.2.2 hat.2.2
    have hbx : bits .xor .u64 ((runP pre).1.2 : Int) (t : Int) = (((runP pre).1.2 ^^^ t : Nat) : Int) := bits_xor_u64_nat _ _ (by omega) (by omega)
    simp only at hat
    rw [HS.out] at HP
    generalize (runP pre).1.1 = f at *
    generalize (runP pre).1.2 = m at *
    generalize (runP pre).2 = q at *
    refine yield_law2 hr j5 rfl ?_
    simp only [encE]
    gi_wp2
    intro rb
    have hl1 : wB.heap.size + 1 < A.heap.size := (Array.getElem?_eq_some_iff.1 j5).1
    have hne : ∀ k, k ≠ wB.heap.size + 1 → (A.putObj (wB.heap.size + 1) (.loop rb)).heap[k]? = A.heap[k]? := fun k hk => World.putObj_heap_other hk
    have k1 := hJ _ A _ j1 (quiet_put (e := W.heap.size) j5 (by omega) rfl (.loop rb))
    have k2 : Boxed (A.putObj (wB.heap.size + 1) (.loop rb)) W.heap.size 87 (.func (.yield l) #[] #[]) := (hne _ (by omega)).trans j2
    have k3 : Boxed (A.putObj (wB.heap.size + 1) (.loop rb)) (W.heap.size + 1) 21 (.int .i32 f) := (hne _ (by omega)).trans j3
    have k4 : Boxed (A.putObj (wB.heap.size + 1) (.loop rb)) (W.heap.size + 1 + 1) 60 (.int .u64 (m : Int)) := (hne _ (by omega)).trans j4
    have k5 : Hid ((A.putObj (wB.heap.size + 1) (.loop rb)).heap[wB.heap.size + 1]? = some (.loop rb)) := World.putObj_heap_same hl1
    have k6 : Hid ((A.putObj (wB.heap.size + 1) (.loop rb)).heap[wB.heap.size]? = some (.deferred (some []))) := (hne _ (by omega)).trans j6
    have hkA : Kept We.heap.size A (A.putObj (wB.heap.size + 1) (.loop rb)) := ⟨by simp, fun k o hk he _ => by rw [hne k (by omega)]; exact hk⟩
    have HJ5 := hide j5
    clear j1 j2 j3 j4 j5 j6 hne hl1
    generalize A.putObj (wB.heap.size + 1) (.loop rb) = A1 at *
    have finish : ∀ (A2 : World) (q2 : List (S.R × Nat)), J q2 A2 → Boxed A2 W.heap.size 87 (.func (.yield l) #[] #[]) → Boxed A2 (W.heap.size + 1) 21 (.int .i32 f) → Boxed A2 (W.heap.size + 1 + 1) 60 (.int .u64 (m : Int)) → A2.heap[wB.heap.size + 1]? = some (.loop rb) → A2.heap[wB.heap.size]? = some (.deferred (some [])) → Kept We.heap.size A A2 →
        Hid ((((A2.setCell ⟨W.heap.size + 1, 0, none⟩ (.int .i32 at_)).setCell ⟨W.heap.size + 1 + 1, 0, none⟩ (.int .u64 ((m ^^^ t : Nat) : Int))).drew.heap[wB.heap.size + 1]? = some (.loop rb)) ∧
          ∀ W5, W5 = (((A2.setCell ⟨W.heap.size + 1, 0, none⟩ (.int .i32 at_)).setCell ⟨W.heap.size + 1 + 1, 0, none⟩ (.int .u64 ((m ^^^ t : Nat) : Int))).drew).putObj (wB.heap.size + 1) (.loop r) →
            J q2 W5 ∧ Boxed W5 W.heap.size 87 (.func (.yield l) #[] #[]) ∧ Boxed W5 (W.heap.size + 1) 21 (.int .i32 at_) ∧ Boxed W5 (W.heap.size + 1 + 1) 60 (.int .u64 ((m ^^^ t : Nat) : Int)) ∧ W5.heap[wB.heap.size + 1]? = some (.loop r) ∧ W5.heap[wB.heap.size]? = some (.deferred (some [])) ∧ Kept We.heap.size A W5) := by
      intro A2 q2 i1 i2 i3 i4 i5 i6 i7
      have q1 := quiet_box (e := W.heap.size) i3 (by omega) rfl (.int .i32 at_)
      have i3b := i3.set (.int .i32 at_)
      have i4b := i4.other (B' := W.heap.size + 1) (by omega) (.int .i32 at_)
      have i2b := i2.other (B' := W.heap.size + 1) (by omega) (.int .i32 at_)
      have i5b := ((grownBy_setCell' A2 (W.heap.size + 1) (.int .i32 at_)).block (wB.heap.size + 1) (Array.getElem?_eq_some_iff.1 i5).1 (by simp; omega)).trans i5
      have i6b := ((grownBy_setCell' A2 (W.heap.size + 1) (.int .i32 at_)).block (wB.heap.size) (Array.getElem?_eq_some_iff.1 i6).1 (by simp; omega)).trans i6
      have i7b := i7.trans (kept_grown (e := We.heap.size) (grownBy_setCell' A2 (W.heap.size + 1) (.int .i32 at_)) (by omega))
      have i1b := hJ _ _ _ i1 q1
      clear i1 i2 i3 i4 i5 i6 i7 q1
      generalize A2.setCell ⟨W.heap.size + 1, 0, none⟩ (.int .i32 at_) = A3 at *
      have q1 := quiet_box (e := W.heap.size) i4b (by omega) rfl (.int .u64 ((m ^^^ t : Nat) : Int))
      have i4c := i4b.set (.int .u64 ((m ^^^ t : Nat) : Int))
      have i3c := i3b.other (B' := W.heap.size + 1 + 1) (by omega) (.int .u64 ((m ^^^ t : Nat) : Int))
      have i2c := i2b.other (B' := W.heap.size + 1 + 1) (by omega) (.int .u64 ((m ^^^ t : Nat) : Int))
      have i5c := ((grownBy_setCell' A3 (W.heap.size + 1 + 1) (.int .u64 ((m ^^^ t : Nat) : Int))).block (wB.heap.size + 1) (Array.getElem?_eq_some_iff.1 i5b).1 (by simp; omega)).trans i5b
      have i6c := ((grownBy_setCell' A3 (W.heap.size + 1 + 1) (.int .u64 ((m ^^^ t : Nat) : Int))).block (wB.heap.size) (Array.getElem?_eq_some_iff.1 i6b).1 (by simp; omega)).trans i6b
      have i7c := i7b.trans (kept_grown (e := We.heap.size) (grownBy_setCell' A3 (W.heap.size + 1 + 1) (.int .u64 ((m ^^^ t : Nat) : Int))) (by omega))
      have i1c := hJ _ _ _ i1b q1
      clear i1b i2b i3b i4b i5b i6b i7b q1
      generalize A3.setCell ⟨W.heap.size + 1 + 1, 0, none⟩ (.int .u64 ((m ^^^ t : Nat) : Int)) = A4 at *
      refine ⟨i5c, ?_⟩
      rintro W5 rfl
      have hne : ∀ k, k ≠ wB.heap.size + 1 → (A4.drew.putObj (wB.heap.size + 1) (.loop r)).heap[k]? = A4.heap[k]? := fun k hk => World.putObj_heap_other (w := A4.drew) hk
      have hd : J q2 A4.drew := hJ _ _ _ i1c (quiet_below ((Below.refl _ A4).drew))
      refine ⟨hJ _ _ _ hd (quiet_put (A := A4.drew) i5c (by omega) rfl _), (hne _ (by omega)).trans i2c, (hne _ (by omega)).trans i3c, (hne _ (by omega)).trans i4c, World.putObj_heap_same (w := A4.drew) (Array.getElem?_eq_some_iff.1 i5c).1, (hne _ (by omega)).trans i6c, ?_⟩
      exact ⟨Nat.le_trans i7c.size (by rw [World.putObj_size]; exact Nat.le_refl _), fun k o hk he ho => by rw [hne k (by omega)]; exact i7c.same k o hk he ho⟩
    have FIN := hide finish
    clear finish
    by_cases hlt : f < at_
    · rw [if_pos hlt] at HP
      obtain ⟨fn, tmps, assign, body, hy, hR⟩ := yield_any (n - 1 - 1 - 1) (hY q ((f, at_ - 1), m) A1 k1 HP.out)
      simp only [encQ] at hy
      have c2 := k2.cell
      have c3 := k3.cell
      have c4 := k4.cell
      have hd : decide (f < at_) = true := by simpa using hlt
      gi_wp2
      refine RoundIn.mono (F := Fence.wide.inRound (wB.heap.size + 1)) hR ?_
      rintro e W4 ⟨rfl, hJ4, hk4⟩
      have m2 : Boxed W4 W.heap.size 87 (.func (.yield l) #[] #[]) := hk4.same _ _ k2 (Nat.le_refl _) rfl
      have m3 : Boxed W4 (W.heap.size + 1) 21 (.int .i32 f) := hk4.same _ _ k3 (by omega) rfl
      have m4 : Boxed W4 (W.heap.size + 1 + 1) 60 (.int .u64 (m : Int)) := hk4.same _ _ k4 (by omega) rfl
      have hf := FIN.out W4 _ hJ4 m2 m3 m4 (hk4.same _ _ k5.out (by omega) rfl) (hk4.same _ _ k6.out (by omega) rfl) (hkA.trans (hk4.mono (by omega)))
      have hs40 := ((m4.other (B' := W.heap.size + 1) (by omega) (.int .i32 at_))).cell
      have hs40f := ((m4.other (B' := W.heap.size + 1) (by omega) (.int .i32 at_))).frozen
      have d3 := m3.cell
      have d4 := m4.cell
      have e3 := m3.frozen
      have e4 := m4.frozen
      clear c2 c3 c4 k1 k2 k3 k4 k5 k6 hkA hk4 hJ4 hy hR FIN m2 m3 m4 hY
      gi_wp2
      generalize hX : (m ^^^ t : Nat) = x at *
      have hs4 : (W4.drew.setCell ⟨W.heap.size + 1, 0, none⟩ (.int .i32 at_)).cell? ⟨W.heap.size + 1 + 1, 0, none⟩ = some (.int .u64 (m : Int)) := hs40
      have hs4f : (W4.drew.setCell ⟨W.heap.size + 1, 0, none⟩ (.int .i32 at_)).frozen? ⟨W.heap.size + 1 + 1, 0, none⟩ = false := hs40f
      refine Reg.startR (B := W.heap.size) (by kernel_rfl) (by kernel_rfl) (by rintro ⟨_, _, h⟩; exact h) ?_
      refine Reg.take (fun _ _ _ _ _ h => h) 0 _ 24 (.int .i32 at_) rfl (by kernel_rfl) (by kernel_rfl) (by kernel_rfl) rfl (by kernel_rfl) (by kernel_rfl) (fun _ _ => by kernel_rfl) ?_
      refine Reg.take (fun _ _ _ _ _ h => h) 2 _ 26 (.int .u64 (t : Int)) rfl (by kernel_rfl) (by kernel_rfl) (by kernel_rfl) rfl (by kernel_rfl) (by kernel_rfl) (fun _ _ => by kernel_rfl) ?_
      refine Reg.two 1 4 (by kernel_rfl) ?_ ?_
      · refine Reg.brV 1 _ 25 rfl rfl (by kernel_rfl) (by kernel_rfl) ⟨.int .u64 (m : Int), _, W.heap.size, Reg.ld1 rfl (by kernel_rfl) (show W4.drew.cell? ⟨W.heap.size + 1 + 1, 0, none⟩ = _ from d4) (Try.isAgg60 _), Nat.le_refl _, Below.refl _ _, ?_⟩
        refine Reg.take (fun _ _ _ _ _ h => h) 3 _ 27 (.int .u64 (x : Int)) rfl (by kernel_rfl) (by kernel_rfl) (by kernel_rfl) rfl (by kernel_rfl) (by kernel_rfl) (fun _ _ => Reg.xor64 rfl (by kernel_rfl) (by kernel_rfl) hbx) ?_
        refine Reg.one 4 (by kernel_rfl) (Reg.brN 4 _ rfl rfl (by kernel_rfl) (by kernel_rfl) ⟨(W4.drew.setCell ⟨W.heap.size + 1, 0, none⟩ (.int .i32 at_)), W.heap.size, Reg.st1 (v := .int .i32 at_) rfl (by kernel_rfl) (by kernel_rfl) (show W4.drew.cell? ⟨W.heap.size + 1, 0, none⟩ = _ from d3) (show W4.drew.frozen? ⟨W.heap.size + 1, 0, none⟩ = _ from e3) (.inl ⟨_, _, rfl⟩) (Try.sizeOf21 _), Nat.le_refl _, (Below.refl _ _).setCell (p := ⟨W.heap.size + 1, 0, none⟩) (by simp) _, ?_⟩)
        refine Reg.one 5 (by kernel_rfl) (Reg.brN 5 _ rfl rfl (by kernel_rfl) (by kernel_rfl) ⟨((W4.drew.setCell ⟨W.heap.size + 1, 0, none⟩ (.int .i32 at_)).setCell ⟨W.heap.size + 1 + 1, 0, none⟩ (.int .u64 (x : Int))), W.heap.size, Reg.st1 (v := .int .u64 (x : Int)) rfl (by kernel_rfl) (by kernel_rfl) hs4 hs4f (.inl ⟨_, _, rfl⟩) (Try.sizeOf60 _), Nat.le_refl _, (Below.refl _ _).setCell (p := ⟨W.heap.size + 1 + 1, 0, none⟩) (by simp; omega) _, ?_⟩)
        refine Reg.done (by kernel_rfl) ?_
        refine ⟨hf.out.1, ?_, (hf.out.2 _ rfl).2.2.2.2.2.2⟩
        show J (runP (pre ++ [(at_, t)])).2 _ ∧ _
        rw [HS.out]
        obtain ⟨g1, g2, g3, g4, g5, g6, _⟩ := hf.out.2 _ rfl
        exact ⟨by rw [if_pos hlt]; exact g1, g2, g3, g4, g5, g6⟩
      · refine Reg.brN 4 _ rfl rfl (by kernel_rfl) (by kernel_rfl) ⟨(W4.drew.setCell ⟨W.heap.size + 1, 0, none⟩ (.int .i32 at_)), W.heap.size, Reg.st1 (v := .int .i32 at_) rfl (by kernel_rfl) (by kernel_rfl) (show W4.drew.cell? ⟨W.heap.size + 1, 0, none⟩ = _ from d3) (show W4.drew.frozen? ⟨W.heap.size + 1, 0, none⟩ = _ from e3) (.inl ⟨_, _, rfl⟩) (Try.sizeOf21 _), Nat.le_refl _, (Below.refl _ _).setCell (p := ⟨W.heap.size + 1, 0, none⟩) (by simp) _, ?_⟩
        refine Reg.one 1 (by kernel_rfl) (Reg.brV 1 _ 25 rfl rfl (by kernel_rfl) (by kernel_rfl) ⟨.int .u64 (m : Int), _, W.heap.size, Reg.ld1 rfl (by kernel_rfl) hs4 (Try.isAgg60 _), Nat.le_refl _, Below.refl _ _, ?_⟩)
        refine Reg.take (fun _ _ _ _ _ h => h) 3 _ 27 (.int .u64 (x : Int)) rfl (by kernel_rfl) (by kernel_rfl) (by kernel_rfl) rfl (by kernel_rfl) (by kernel_rfl) (fun _ _ => Reg.xor64 rfl (by kernel_rfl) (by kernel_rfl) hbx) ?_
        refine Reg.one 5 (by kernel_rfl) (Reg.brN 5 _ rfl rfl (by kernel_rfl) (by kernel_rfl) ⟨((W4.drew.setCell ⟨W.heap.size + 1, 0, none⟩ (.int .i32 at_)).setCell ⟨W.heap.size + 1 + 1, 0, none⟩ (.int .u64 (x : Int))), W.heap.size, Reg.st1 (v := .int .u64 (x : Int)) rfl (by kernel_rfl) (by kernel_rfl) hs4 hs4f (.inl ⟨_, _, rfl⟩) (Try.sizeOf60 _), Nat.le_refl _, (Below.refl _ _).setCell (p := ⟨W.heap.size + 1 + 1, 0, none⟩) (by simp; omega) _, ?_⟩)
        refine Reg.done (by kernel_rfl) ?_
        refine ⟨hf.out.1, ?_, (hf.out.2 _ rfl).2.2.2.2.2.2⟩
        show J (runP (pre ++ [(at_, t)])).2 _ ∧ _
        rw [HS.out]
        obtain ⟨g1, g2, g3, g4, g5, g6, _⟩ := hf.out.2 _ rfl
        exact ⟨by rw [if_pos hlt]; exact g1, g2, g3, g4, g5, g6⟩
    · have hle : at_ ≤ f := by omega
      have hd : decide (f < at_) = false := by simpa using hle
      have hf := FIN.out A1 _ k1 k2 k3 k4 k5.out k6.out hkA
      have hs40 := ((k4.other (B' := W.heap.size + 1) (by omega) (.int .i32 at_))).cell
      have hs40f := ((k4.other (B' := W.heap.size + 1) (by omega) (.int .i32 at_))).frozen
      have d3 := k3.cell
      have d4 := k4.cell
      have e3 := k3.frozen
      have e4 := k4.frozen
      clear k1 k2 k5 k6 hkA FIN k3 k4 hY
      gi_wp2
      refine ⟨fun _ h => (by cases h), ?_⟩
      gi_wp2
      generalize hX : (m ^^^ t : Nat) = x at *
      have hs4 : (A1.drew.setCell ⟨W.heap.size + 1, 0, none⟩ (.int .i32 at_)).cell? ⟨W.heap.size + 1 + 1, 0, none⟩ = some (.int .u64 (m : Int)) := hs40
      have hs4f : (A1.drew.setCell ⟨W.heap.size + 1, 0, none⟩ (.int .i32 at_)).frozen? ⟨W.heap.size + 1 + 1, 0, none⟩ = false := hs40f
      refine Reg.startR (B := W.heap.size) (by kernel_rfl) (by kernel_rfl) (by rintro ⟨_, _, h⟩; exact h) ?_
      refine Reg.take (fun _ _ _ _ _ h => h) 0 _ 24 (.int .i32 at_) rfl (by kernel_rfl) (by kernel_rfl) (by kernel_rfl) rfl (by kernel_rfl) (by kernel_rfl) (fun _ _ => by kernel_rfl) ?_
      refine Reg.take (fun _ _ _ _ _ h => h) 2 _ 26 (.int .u64 (t : Int)) rfl (by kernel_rfl) (by kernel_rfl) (by kernel_rfl) rfl (by kernel_rfl) (by kernel_rfl) (fun _ _ => by kernel_rfl) ?_
      refine Reg.two 1 4 (by kernel_rfl) ?_ ?_
      · refine Reg.brV 1 _ 25 rfl rfl (by kernel_rfl) (by kernel_rfl) ⟨.int .u64 (m : Int), _, W.heap.size, Reg.ld1 rfl (by kernel_rfl) (show A1.drew.cell? ⟨W.heap.size + 1 + 1, 0, none⟩ = _ from d4) (Try.isAgg60 _), Nat.le_refl _, Below.refl _ _, ?_⟩
        refine Reg.take (fun _ _ _ _ _ h => h) 3 _ 27 (.int .u64 (x : Int)) rfl (by kernel_rfl) (by kernel_rfl) (by kernel_rfl) rfl (by kernel_rfl) (by kernel_rfl) (fun _ _ => Reg.xor64 rfl (by kernel_rfl) (by kernel_rfl) hbx) ?_
        refine Reg.one 4 (by kernel_rfl) (Reg.brN 4 _ rfl rfl (by kernel_rfl) (by kernel_rfl) ⟨(A1.drew.setCell ⟨W.heap.size + 1, 0, none⟩ (.int .i32 at_)), W.heap.size, Reg.st1 (v := .int .i32 at_) rfl (by kernel_rfl) (by kernel_rfl) (show A1.drew.cell? ⟨W.heap.size + 1, 0, none⟩ = _ from d3) (show A1.drew.frozen? ⟨W.heap.size + 1, 0, none⟩ = _ from e3) (.inl ⟨_, _, rfl⟩) (Try.sizeOf21 _), Nat.le_refl _, (Below.refl _ _).setCell (p := ⟨W.heap.size + 1, 0, none⟩) (by simp) _, ?_⟩)
        refine Reg.one 5 (by kernel_rfl) (Reg.brN 5 _ rfl rfl (by kernel_rfl) (by kernel_rfl) ⟨((A1.drew.setCell ⟨W.heap.size + 1, 0, none⟩ (.int .i32 at_)).setCell ⟨W.heap.size + 1 + 1, 0, none⟩ (.int .u64 (x : Int))), W.heap.size, Reg.st1 (v := .int .u64 (x : Int)) rfl (by kernel_rfl) (by kernel_rfl) hs4 hs4f (.inl ⟨_, _, rfl⟩) (Try.sizeOf60 _), Nat.le_refl _, (Below.refl _ _).setCell (p := ⟨W.heap.size + 1 + 1, 0, none⟩) (by simp; omega) _, ?_⟩)
        refine Reg.done (by kernel_rfl) ?_
        refine ⟨hf.out.1, ?_, (hf.out.2 _ rfl).2.2.2.2.2.2⟩
        show J (runP (pre ++ [(at_, t)])).2 _ ∧ _
        rw [HS.out]
        obtain ⟨g1, g2, g3, g4, g5, g6, _⟩ := hf.out.2 _ rfl
        exact ⟨by rw [if_neg (by omega), List.append_nil]; exact g1, g2, g3, g4, g5, g6⟩
      · refine Reg.brN 4 _ rfl rfl (by kernel_rfl) (by kernel_rfl) ⟨(A1.drew.setCell ⟨W.heap.size + 1, 0, none⟩ (.int .i32 at_)), W.heap.size, Reg.st1 (v := .int .i32 at_) rfl (by kernel_rfl) (by kernel_rfl) (show A1.drew.cell? ⟨W.heap.size + 1, 0, none⟩ = _ from d3) (show A1.drew.frozen? ⟨W.heap.size + 1, 0, none⟩ = _ from e3) (.inl ⟨_, _, rfl⟩) (Try.sizeOf21 _), Nat.le_refl _, (Below.refl _ _).setCell (p := ⟨W.heap.size + 1, 0, none⟩) (by simp) _, ?_⟩
        refine Reg.one 1 (by kernel_rfl) (Reg.brV 1 _ 25 rfl rfl (by kernel_rfl) (by kernel_rfl) ⟨.int .u64 (m : Int), _, W.heap.size, Reg.ld1 rfl (by kernel_rfl) hs4 (Try.isAgg60 _), Nat.le_refl _, Below.refl _ _, ?_⟩)
        refine Reg.take (fun _ _ _ _ _ h => h) 3 _ 27 (.int .u64 (x : Int)) rfl (by kernel_rfl) (by kernel_rfl) (by kernel_rfl) rfl (by kernel_rfl) (by kernel_rfl) (fun _ _ => Reg.xor64 rfl (by kernel_rfl) (by kernel_rfl) hbx) ?_
        refine Reg.one 5 (by kernel_rfl) (Reg.brN 5 _ rfl rfl (by kernel_rfl) (by kernel_rfl) ⟨((A1.drew.setCell ⟨W.heap.size + 1, 0, none⟩ (.int .i32 at_)).setCell ⟨W.heap.size + 1 + 1, 0, none⟩ (.int .u64 (x : Int))), W.heap.size, Reg.st1 (v := .int .u64 (x : Int)) rfl (by kernel_rfl) (by kernel_rfl) hs4 hs4f (.inl ⟨_, _, rfl⟩) (Try.sizeOf60 _), Nat.le_refl _, (Below.refl _ _).setCell (p := ⟨W.heap.size + 1 + 1, 0, none⟩) (by simp; omega) _, ?_⟩)
        refine Reg.done (by kernel_rfl) ?_
        refine ⟨hf.out.1, ?_, (hf.out.2 _ rfl).2.2.2.2.2.2⟩
        show J (runP (pre ++ [(at_, t)])).2 _ ∧ _
        rw [HS.out]
        obtain ⟨g1, g2, g3, g4, g5, g6, _⟩ := hf.out.2 _ rfl
        exact ⟨by rw [if_neg (by omega), List.append_nil]; exact g1, g2, g3, g4, g5, g6⟩
  · rintro e W9 ⟨⟨v, rfl⟩, j1, j2, j3, j4, j5, j6⟩
    refine ⟨⟨v, rfl⟩, j5, fun r' => ?_⟩
    have hbp := runP_bounds (zs := endsZ ls) hz
    have HPC : Hid (pieces (endsZ ls) = (runP (endsZ ls)).2 ++ if (runP (endsZ ls)).1.1 ≤ 1114111 then [(((runP (endsZ ls)).1.1, 1114111), (runP (endsZ ls)).1.2)] else []) := hide rfl
    have hne : ∀ k, k ≠ wB.heap.size + 1 → (W9.putObj (wB.heap.size + 1) (.loop r')).heap[k]? = W9.heap[k]? := fun k hk => World.putObj_heap_other hk
    have k1 := hJ _ W9 _ j1 (quiet_put (e := W.heap.size) j5 (by omega) rfl (.loop r'))
    have k2 : Boxed (W9.putObj (wB.heap.size + 1) (.loop r')) W.heap.size 87 (.func (.yield l) #[] #[]) := (hne _ (by omega)).trans j2
    have k3 : Boxed (W9.putObj (wB.heap.size + 1) (.loop r')) (W.heap.size + 1) 21 (.int .i32 (runP (endsZ ls)).1.1) := (hne _ (by omega)).trans j3
    have k4 : Boxed (W9.putObj (wB.heap.size + 1) (.loop r')) (W.heap.size + 1 + 1) 60 (.int .u64 ((runP (endsZ ls)).1.2 : Int)) := (hne _ (by omega)).trans j4
    have k6 : Hid ((W9.putObj (wB.heap.size + 1) (.loop r')).heap[wB.heap.size]? = some (.deferred (some []))) := (hne _ (by omega)).trans j6
    clear j1 j2 j3 j4 j5 j6 hne bY bF bI bS h0
    generalize W9.putObj (wB.heap.size + 1) (.loop r') = X at *
    generalize (runP (endsZ ls)).1.1 = f at *
    generalize (runP (endsZ ls)).1.2 = m at *
    generalize (runP (endsZ ls)).2 = q at *
    have c2 := k2.cell
    have c3 := k3.cell
    have c4 := k4.cell
    by_cases hle : f ≤ 1114111
    · rw [if_pos hle] at HPC
      obtain ⟨fn, tmps, assign, body, hy, hR⟩ := hY q ((f, 1114111), m) X k1 (by rw [HPC.out]; exact List.prefix_refl _)
      simp only [encQ] at hy
      gi_wp2
      refine hR.mono ?_
      rintro e W4 ⟨rfl, hJ4, hk4⟩
      rw [← HPC.out] at hJ4
      have hK := hk4.same _ _ k6.out (by omega) rfl
      clear hy hR c2 c3 c4 hk4 k1 k2 k3 k4 k6
      gi_wp2
      refine ⟨by simp, .inl ⟨_, _, rfl, run_takeDeferred hK, ?_⟩⟩
      exact ⟨_, results_none rfl _ _ _, ⟨_, rfl⟩, hJ _ _ _ hJ4 (quiet_put hK (by omega) rfl _)⟩
    · have hle2 : 1114112 ≤ f := by omega
      rw [if_neg hle, List.append_nil] at HPC
      have hK := k6.out
      rw [← HPC.out] at k1
      gi_wp2
      refine ⟨by simp, .inl ⟨_, _, rfl, run_takeDeferred hK, ?_⟩⟩
      exact ⟨_, results_none rfl _ _ _, ⟨_, rfl⟩, hJ _ _ _ k1 (quiet_put hK (by omega) rfl _)⟩
end Go.Proofs.Ytbkcbclloemajaa
