/- The iterator over ends: its walk. -/
import Derived.Test.YtbkcbclloemajaaEnds
namespace Go.Proofs.Ytbkcbclloemajaa
open Go.RowKit Go.Shelf
attribute [local go_sem] Oper.semAt_some

theorem evT_in {T : List (List S.R)} {n : Nat} {x : Int} {i : Nat} (h : (x, i) ∈ evT T n) : 0 ≤ x ∧ x ≤ 1114112 := by
  obtain ⟨k, _, h1⟩ := List.mem_flatMap.1 h
  obtain ⟨_, r, hr, h2⟩ := evR_mem h1
  have := (S.good_iff r).1 ((S.set_canon _).good r hr)
  simp only at h2
  omega
theorem wrap_pow (i : Nat) (hi : i < 64) : IntKind.u64.wrap ((2 : Int) ^ i) = ((2 ^ i : Nat) : Int) := by
  have h : (2 : Nat) ^ i < 2 ^ 64 := Nat.pow_lt_pow_right (by decide) hi
  rw [IntKind.wrap_u64, show ((2 : Int) ^ i) = ((2 ^ i : Nat) : Int) by push_cast; rfl]
  generalize (2 : Nat) ^ i = p at h
  omega

set_option maxRecDepth 100000 in
set_option maxHeartbeats 8000000 in
theorem ends1_in (n : Nat) (hn : 1 ≤ n) (Bn cap : Nat) (sao : Option Addr) (ls : List L3) (hl : ls.length ≤ 64) (hl2 : ∀ p ∈ ls, p.2.2.length ≤ 5000) (l : Nat) (J : List (Int × Nat) → World → Prop) (W : World)
    (hbox : W.cell? ⟨Bn, 0, none⟩ = some (.slice sao ls.length cap)) (hrd : RdS W sao ls) (hJ : ∀ s A B, J s A → Quiet W.heap.size A B → J s B)
    (hY : ∀ pre x W1, J pre W1 → pre ++ [x] <+: endsZ ls → YieldAt Fence.wide (n - 1) Try.prog l (encE x) W1 fun e W' => e = .returned (.bool true) ∧ J (pre ++ [x]) W' ∧ Kept W.heap.size W1 W') (h0 : J [] W) :
    CallsIn Fence.wide n Try.prog 49 #[.func (.yield l) #[] #[], .pointer (some ⟨Bn, 0, none⟩)] W fun e W' => (∃ v, e = .returned v) ∧ J (endsZ ls) W' := by
  have hev : ∀ i, (evT (TOf ls) i).length ≤ i * 10000 := evT_length (m := 5000) (fun x hx => by obtain ⟨p, hp, rfl⟩ := List.mem_map.1 hx; exact hl2 p hp)
  have hmm := @run_makeMap Try.prog
  refine callsIn_of_wp Try.func49 rfl trivial ?_ rfl
  simp only [Try.ntmps49, List.size_toArray, List.length_cons, List.length_nil, Nat.reduceAdd, Nat.reduceSub, Array.replicate_succ, Array.replicate_zero, List.push_toArray, List.append_toArray, List.nil_append, List.cons_append]
  have hmp : Mp (W.alloc (.map #[] 0)) 21 .i32 60 .u64 W.heap.size 0 (mpf (evT (TOf ls) 0)) := Mp.made W
  have hB0 := al1 W (.map #[] 0)
  have hbox0 := cell_later hB0 hbox
  gi_wp2
  clear hbox0 hmm
  gi_loopw [13] (fun p wr => ∃ i : Nat, p = .int .i64 (i : Int) ∧ i ≤ ls.length ∧ Mp wr 21 .i32 60 .u64 W.heap.size (evT (TOf ls) i).length (mpf (evT (TOf ls) i)) ∧ Below W.heap.size W wr) (fun p _ => ls.length - (intOf p).toNat)
  case atStart => exact ⟨0, rfl, Nat.zero_le _, hmp, hB0⟩
  case round =>
    clear hmp hB0
    obtain ⟨i, rfl, hi, hmp, hB⟩ := hrel
    by_cases hlt : i < ls.length
    · obtain ⟨sb, soff, rfl, hc1, hr1⟩ := (hrd.later hB) i hlt
      have hT := TOf_at ls i hlt
      have hli := hl2 _ (List.getElem_mem hlt)
      have HS := hide (evT_succ (TOf ls) i)
      rw [hT] at HS
      have hE0 := hev i
      have HE64 : Hid (∀ p ∈ evT (TOf ls) i, p.2 < i) := hide fun p hp => evT_lt hp
      generalize evT (TOf ls) i = E0 at *
      generalize ls[i] = p at *
      obtain ⟨ao, cp, xs⟩ := p
      simp only at hc1 hr1 HS hli
      have hun := union_any ao none cp 0 xs [] (by simp; omega) wr hr1 (rdr_nil _ _)
      rw [List.append_nil] at hun
      have hzl := S.set_length xs
      have hzc := S.set_canon xs
      generalize S.set xs = zs at *
      gi_wp2_with (refine ⟨trivial, ?_⟩; gi_at_call 21; refine (callsIn_wide.2 hun).mono ?_; clear hun; rintro e w2 ⟨a2, c2, rfl, hr2, _, hb2⟩)
      have hmp2 := hmp.later hb2
      have hB2 := nx hB hb2
      gi_loopw [21] (fun p wq => ∃ j : Nat, p = .int .i64 (j : Int) ∧ j ≤ zs.length ∧ Mp wq 21 .i32 60 .u64 W.heap.size (E0 ++ evR i (zs.take j)).length (mpf (E0 ++ evR i (zs.take j))) ∧ Below W.heap.size W wq ∧ RdR wq a2 zs) (fun p _ => zs.length - (intOf p).toNat)
      case atStart => exact ⟨0, rfl, Nat.zero_le _, by simpa [evR] using hmp2, hB2, hr2⟩
      case round =>
        clear hmp hmp2 hr2 hc1 hr1
        obtain ⟨j, rfl, hj, hmp, hBq, hrz⟩ := hrel
        by_cases hjt : j < zs.length
        · obtain ⟨b2, off2, rfl, hz1, hz2⟩ := hrz j hjt
          have HT := hide (evR_take i zs j hjt)
          have hgz := (S.good_iff _).1 (hzc.good _ (List.getElem_mem hjt))
          generalize zs[j] = r at *
          obtain ⟨lo, hi⟩ := r
          simp only at hz1 hz2 hgz HT
          gi_wp2
          have hba := al1 wr (.cells #[.int .i32 lo, .int .i32 hi] 48)
          have hca := cells_two (World.alloc_heap_new wr (.cells #[.int .i32 lo, .int .i32 hi] 48))
          replace hmp := hmp.later hba
          replace hBq := nx hBq hba
          replace hrz := hrz.later hba
          generalize (wr.alloc (.cells #[.int .i32 lo, .int .i32 hi] 48)) = wa at *
          obtain ⟨hca0, hca1⟩ := hca
          obtain ⟨mes, mcl, hmpm⟩ := hmp.isMap
          have hL1 : (E0 ++ evR i (zs.take j)).length ≤ i * 10000 + 10000 := by
            rw [List.length_append, evR_length, List.length_take]
            omega
          have HL64 : Hid (∀ p ∈ E0 ++ evR i (zs.take j), p.2 < 64) := hide fun p hp => by
            rcases List.mem_append.1 hp with h | h
            · have := HE64.out p h; omega
            · rw [(evR_mem h).1]; omega
          have HW2 := hide (wrap_pow i (by omega))
          have HLL := hide hL1
          generalize hLg : E0 ++ evR i (zs.take j) = L1 at *
          have hwf : ∀ q, (wa.drewN q).frozen? ⟨wr.heap.size, 0, none⟩ = (wa.drewN q).frozen? ⟨wr.heap.size, 0, none⟩ := fun _ => rfl
          clear hwf
          have hlkA : (Instr.lookup 94 (.map (some W.heap.size)) (.int .i32 (lo)) false).run Try.prog wa.drew = .ok (.int .u64 ((((evN L1 (lo)).getD 0 : Nat) : Int))) wa.drew := (Mp.look (w := wa.drew) hmp Try.underlying21 Try.underlying94 Try.underlying60 (Try.zeroValue60 _) (x := lo) (wf32 (by omega))).trans (by rw [mpf_get])
          have hc64A : (evN L1 (lo)).getD 0 < 2 ^ 64 := evN_lt L1 64 (fun p hp => HL64.out p hp) _
          have HSNA := hide (mpf_snoc L1 (lo) i)
          have hx64A : (evN L1 (lo)).getD 0 ^^^ 2 ^ i < 2 ^ 64 := Nat.xor_lt_two_pow hc64A (Nat.pow_lt_pow_right (by omega) (by omega))
          have hbxA : bits .xor .u64 ((((evN L1 (lo)).getD 0 : Nat) : Int)) (IntKind.u64.wrap (2 ^ i)) = ((((evN L1 (lo)).getD 0 ^^^ 2 ^ i : Nat) : Nat) : Int) := by
            rw [HW2.out]
            exact bits_xor_u64_nat _ _ (by omega) (Nat.pow_lt_pow_right (by omega) (by omega : i < 64))
          generalize (evN L1 (lo)).getD 0 ^^^ 2 ^ i = vA at *
          generalize (evN L1 (lo)).getD 0 = cA at *
          obtain ⟨wA, hstA, hmpA, hgA, hsA⟩ := Mp.store (w := wa.drew) hmp Try.underlying21 Try.underlying94 Try.underlying60 (by unfold maxLen; omega) (x := lo) (v := (vA : Int)) (wf32 (by omega)) (wf64 hx64A)
          rw [← HSNA.out] at hmpA
          clear hmp
          refine wpIn_wide.2 ?_
          go_region
          have hbwA : wa.grownBy wA (some W.heap.size) := ⟨hgA.os, hgA.tape, hgA.output, hgA.size, hgA.block⟩
          replace hBq := below_grown hBq hbwA (Nat.le_refl _) (Nat.le_refl _)
          have hncA : ∀ r, some W.heap.size = some r → ∃ o : Obj, wa.heap[r]? = some o ∧ o.isCells = false := fun r e => by
            cases e
            exact ⟨_, hmpm, rfl⟩
          replace hrz := hrz.kept hbwA hncA
          replace hca1 := cell_kept hca1 hbwA hncA
          have hmp := hmpA
          clear hmpm
          obtain ⟨mes2, mcl2, hmpm⟩ := hmpA.isMap
          clear hca0 hncA hbwA hgA hstA hlkA hbxA hmpA HSNA hc64A hx64A hsA
          have HL64b : Hid (∀ p ∈ L1 ++ [(lo, i)], p.2 < 64) := hide fun p hp => by
            rcases List.mem_append.1 hp with h | h
            · exact HL64.out p h
            · obtain rfl : p = (lo, i) := by simpa using h
              show i < 64
              omega
          clear HL64
          have HL64 := HL64b
          clear HL64b
          have hL2 : (L1 ++ [(lo, i)]).length ≤ i * 10000 + 10001 := by
            rw [List.length_append]
            have := HLL.out
            simp
            omega
          have hmpL : Mp wA 21 .i32 60 .u64 W.heap.size (L1 ++ [(lo, i)]).length (mpf (L1 ++ [(lo, i)])) := by
            rw [List.length_append]
            exact hmp
          clear hmp
          have hmp := hmpL
          clear hmpL
          generalize hLg2 : L1 ++ [(lo, i)] = L2 at *
          gi_wp2
          have hlkB : (Instr.lookup 94 (.map (some W.heap.size)) (.int .i32 (hi + 1)) false).run Try.prog wA.drew = .ok (.int .u64 ((((evN L2 (hi + 1)).getD 0 : Nat) : Int))) wA.drew := (Mp.look (w := wA.drew) hmp Try.underlying21 Try.underlying94 Try.underlying60 (Try.zeroValue60 _) (x := hi + 1) (wf32 (by omega))).trans (by rw [mpf_get])
          have hc64B : (evN L2 (hi + 1)).getD 0 < 2 ^ 64 := evN_lt L2 64 (fun p hp => HL64.out p hp) _
          have HSNB := hide (mpf_snoc L2 (hi + 1) i)
          have hx64B : (evN L2 (hi + 1)).getD 0 ^^^ 2 ^ i < 2 ^ 64 := Nat.xor_lt_two_pow hc64B (Nat.pow_lt_pow_right (by omega) (by omega))
          have hbxB : bits .xor .u64 ((((evN L2 (hi + 1)).getD 0 : Nat) : Int)) (IntKind.u64.wrap (2 ^ i)) = ((((evN L2 (hi + 1)).getD 0 ^^^ 2 ^ i : Nat) : Nat) : Int) := by
            rw [HW2.out]
            exact bits_xor_u64_nat _ _ (by omega) (Nat.pow_lt_pow_right (by omega) (by omega : i < 64))
          generalize (evN L2 (hi + 1)).getD 0 ^^^ 2 ^ i = vB at *
          generalize (evN L2 (hi + 1)).getD 0 = cB at *
          obtain ⟨wB, hstB, hmpB, hgB, hsB⟩ := Mp.store (w := wA.drew) hmp Try.underlying21 Try.underlying94 Try.underlying60 (by unfold maxLen; omega) (x := hi + 1) (v := (vB : Int)) (wf32 (by omega)) (wf64 hx64B)
          rw [← HSNB.out] at hmpB
          clear hmp
          refine wpIn_wide.2 ?_
          go_region
          have hbwB : wA.grownBy wB (some W.heap.size) := ⟨hgB.os, hgB.tape, hgB.output, hgB.size, hgB.block⟩
          replace hBq := below_grown hBq hbwB (Nat.le_refl _) (Nat.le_refl _)
          have hncB : ∀ r, some W.heap.size = some r → ∃ o : Obj, wA.heap[r]? = some o ∧ o.isCells = false := fun r e => by
            cases e
            exact ⟨_, hmpm, rfl⟩
          replace hrz := hrz.kept hbwB hncB
          have hmpL : Mp wB 21 .i32 60 .u64 W.heap.size (L2 ++ [(hi + 1, i)]).length (mpf (L2 ++ [(hi + 1, i)])) := by
            rw [List.length_append]
            exact hmpB
          clear hmpB hncB hbwB hgB hstB hlkB hbxB HSNB hc64B hx64B hsB hca1 hmpm
          gi_wp2
          go_roundw
          case rel =>
            refine ⟨j + 1, by go_num, by omega, ?_, hBq, hrz⟩
            rw [HT.out, ← List.append_assoc, ← List.append_assoc, hLg, hLg2]
            exact hmpL
          case measure => simp [intOf]; omega
        · obtain rfl : j = zs.length := by omega
          rw [List.take_length, ← HS.out] at hmp
          gi_wp2
          go_roundw
          case rel => exact ⟨i + 1, by go_num, by omega, hmp, hBq⟩
          case measure => simp [intOf]; omega
    · obtain rfl : i = ls.length := by omega
      have hlen := hev ls.length
      have HZ : Hid (endsZ ls = (ksOf (evT (TOf ls) ls.length)).map fun k => (k, (evN (evT (TOf ls) ls.length) k).getD 0)) := hide rfl
      have HI : Hid (∀ x i, (x, i) ∈ evT (TOf ls) ls.length → 0 ≤ x ∧ x ≤ 1114112) := hide fun x i h => evT_in h
      have H64 : Hid (∀ p ∈ evT (TOf ls) ls.length, p.2 < 64) := hide fun p hp => by have := evT_lt hp; omega
      generalize evT (TOf ls) ls.length = L at *
      have hba := al1 wr (.cells #[.map (some W.heap.size)] 94)
      have hcm := (Boxed.new wr 94 (.map (some W.heap.size))).cell
      have hso := sorted32_any wr.heap.size W.heap.size L.length (mpf L) (by omega) (wr.alloc (.cells #[.map (some W.heap.size)] 94)) (by simp) hcm (hmp.later hba)
      have hBa := nx hB hba
      have hmpa := hmp.later hba
      clear hmp hcm hlt hev hl2 hbox hrd
      gi_wp2_with (first
        | (refine ⟨trivial, ?_⟩; gi_at_call 51; refine (callsIn_wide.2 (keysMake_any (some W.heap.size) _)).mono ?_; rintro e w2 ⟨rfl, rfl⟩)
        | (refine ⟨trivial, ?_⟩; gi_at_call 50; refine (callsIn_wide.2 hso).mono ?_; clear hso; rintro e w3 ⟨u, ys, rfl, ho, hsd, hmem, hyl, hb3⟩; obtain ⟨ao3, cap3, rfl, hblk, hrd3⟩ := ho.rd; clear ho))
      have hmp3 := hmpa.later hb3
      have hB3 := nx hBa hb3
      have hys : ys = ksOf L := sorted_unique hsd (ksOf_sorted L) fun x => by
        rw [hmem x, ksOf_mem, ← evN_some]
        have e1 : (mpf L x).isSome = (evN L x).isSome := by unfold mpf; cases evN L x <;> rfl
        rw [e1]
        constructor
        · exact fun h => h.2
        · intro h
          obtain ⟨i, hi⟩ := (evN_some L x).1 h
          exact ⟨wf32 (by have := HI.out x i hi; omega), h⟩
      have hsa : (wr.alloc (.cells #[.map (some W.heap.size)] 94)).heap.size = wr.heap.size + 1 := by simp
      have HZ2 : Hid (endsZ ls = ys.map fun k => (k, (evN L k).getD 0)) := hide (by rw [HZ.out, hys])
      have Hmem := hide hmem
      clear HZ hys hsd hmem hmpa hBa hba
      have h03 : J [] w3 := hJ [] W w3 h0 (quiet_below hB3)
      have hwfy : ∀ y ∈ ys, (Lit.int .i32 y).wf = true := fun y hy => ((Hmem.out y).1 hy).1
      clear Hmem
      gi_loopw [46] (fun p wq => ∃ k : Nat, p = .int .i64 (k : Int) ∧ k ≤ ys.length ∧ J ((endsZ ls).take k) wq ∧ w3.heap.size ≤ wq.heap.size ∧ wq.heap[W.heap.size]? = w3.heap[W.heap.size]? ∧ ∀ g off, ao3 = some ⟨g, off, none⟩ → wq.heap[g]? = w3.heap[g]?) (fun p _ => ys.length - (intOf p).toNat)
      case atStart => exact ⟨0, rfl, Nat.zero_le _, h03, Nat.le_refl _, rfl, fun _ _ _ => rfl⟩
      case round =>
        rename World => wq
        obtain ⟨k, rfl, hk, hJk, hszk, hmk, hrk⟩ := hrel
        by_cases hkt : k < ys.length
        · obtain ⟨g, off, rfl, hcell⟩ := hrd3 k hkt
          have hgk := hrk g off rfl
          obtain ⟨hBg, ⟨cur, hcur⟩, h00⟩ := hblk g off rfl
          clear h00
          have hcq : wq.cell? ⟨g, off + k, none⟩ = some (.int .i32 ys[k]) := (World.cell?_of_block (a := ⟨g, off + k, none⟩) hgk).trans hcell
          have hmq := hmp3.kept hmk
          have hlk := hmq.look Try.underlying21 Try.underlying94 Try.underlying60 (Try.zeroValue60 _) (x := ys[k]) (hwfy _ (List.getElem_mem hkt))
          rw [mpf_get] at hlk
          have hzk : (endsZ ls)[k]'(by rw [HZ2.out]; simpa using hkt) = (ys[k], (evN L ys[k]).getD 0) := by simp [HZ2.out]
          have hzl : k < (endsZ ls).length := by rw [HZ2.out]; simpa using hkt
          have HTk : Hid ((endsZ ls).take (k + 1) = (endsZ ls).take k ++ [(ys[k], (evN L ys[k]).getD 0)]) := hide (by rw [← hzk]; exact List.take_succ_eq_append_getElem hzl)
          obtain ⟨fn, tmps, assign, body, hy, hR⟩ := hY ((endsZ ls).take k) (ys[k], (evN L ys[k]).getD 0) wq hJk (by rw [← HTk.out]; exact List.take_prefix _ _)
          simp only [encE] at hy
          generalize ys[k] = y at *
          generalize (evN L y).getD 0 = c at *
          obtain ⟨mes, mcl, hmo⟩ := hmp3.isMap
          have HMO := hide hmo
          have HMK := hide (hmk.trans hmo)
          have HCU := hide hcur
          have HGK := hide (hgk.trans hcur)
          clear hmo hmk hcur hgk hrk hcell hmq hblk hrd3
          gi_wp2
          refine hR.mono ?_
          rintro e W4 ⟨rfl, hJ4, hk4⟩
          gi_wp2
          go_roundw
          case rel =>
            refine ⟨k + 1, by go_num, by omega, by rw [HTk.out]; exact hJ4, Nat.le_trans hszk hk4.size, ?_, ?_⟩
            · rw [HMO.out]
              exact hk4.same _ _ HMK.out (Nat.le_refl _) rfl
            · intro g' off' e
              cases e
              rw [HCU.out]
              exact hk4.same _ _ HGK.out (by have := hB.size; omega) rfl
          case measure => simp [intOf]; omega
        · obtain rfl : k = ys.length := by omega
          have hJz : J (endsZ ls) wq := by
            have e : (endsZ ls).take ys.length = endsZ ls := List.take_of_length_le (by rw [HZ2.out]; simp)
            rw [e] at hJk
            exact hJk
          gi_wp2
          go_end0
          exact ⟨⟨_, rfl⟩, hJz⟩
end Go.Proofs.Ytbkcbclloemajaa
