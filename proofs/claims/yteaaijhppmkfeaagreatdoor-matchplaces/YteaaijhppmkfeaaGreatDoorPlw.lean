/- MatchPlaces. -/
import Derived.Test.YteaaijhppmkfeaaGreatDoorCmp
import Derived.Test.YteaaijhppmkfeaaGreatDoorCnt
import Derived.BigQuiet
namespace Go.Proofs.YteaaijhppmkfeaaGreatDoor
open Go.RowKit Go.Shelf
open E (Ps Rx T rxOf Vp)
attribute [local go_sem] Oper.semAt_some
/-- A row of numbers that is read. -/
def RdI (w : World) (ao : Option Addr) (zs : List Int) : Prop := ∀ i (h : i < zs.length), ∃ b off, ao = some ⟨b, off, none⟩ ∧ w.cell? ⟨b, off + i, none⟩ = some (.int .i64 zs[i])
theorem RdI.later {w wx : World} {ao : Option Addr} {zs : List Int} (h : RdI w ao zs) (hb : Below w.heap.size w wx) : RdI wx ao zs := fun i hi =>
  let ⟨b, off, e, h1⟩ := h i hi
  ⟨b, off, e, cell_later hb h1⟩
theorem own_rdi {w : World} {B : Nat} {v : Value} {zs : List Int} (h : OwnI w B v zs) : ∃ ao cap, v = .slice ao zs.length cap ∧ RdI w ao zs := by
  have h2 : Own w B 3 v (zs.map (Value.int .i64)) := by unfold Own; rw [List.length_map]; exact h
  obtain ⟨ao, cap, rfl, _, _, hr⟩ := h2.rd
  refine ⟨ao, cap, by rw [List.length_map], fun i hi => ?_⟩
  obtain ⟨b, off, e, hc⟩ := hr i (by simpa using hi)
  exact ⟨b, off, e, by simpa using hc⟩
set_option maxRecDepth 100000 in
theorem cut_mid8 {w : World} {ao : Option Addr} {cap : Nat} {xs : List Int} (hx : RdC32 w ao xs) (f g : Nat) (hf : f ≤ g) (hg : g ≤ xs.length) (hc : xs.length ≤ cap) : ∃ ao', (∀ wx : World, (Instr.slice 44 (.slice ao xs.length cap) (some (.int .i64 (f : Int))) (some (.int .i64 (g : Int))) none).run Tryz.prog wx = .ok (.slice ao' ((xs.drop f).take (g - f)).length (cap - f)) wx) ∧ RdC32 w ao' ((xs.drop f).take (g - f)) := by
  refine ⟨if cap = f then ao else ao.map (·.add (f * 1)), fun wx => ?_, fun i hi => ?_⟩
  · have h := run_slice_lh (P := Tryz.prog) (w := wx) 44 ao xs.length cap Tryz.underlying44 .i64 .i64 (f : Int) (g : Int) (by omega) (by omega) (by omega)
    rw [h, elemSize44]
    have hl : ((xs.drop f).take (g - f)).length = g - f := by simp; omega
    rw [hl]
    simp only [Result.andThen, sliced, Int.toNat_natCast]
  · have hl : ((xs.drop f).take (g - f)).length = g - f := by simp; omega
    rw [hl] at hi
    obtain ⟨b, off, e, h1⟩ := hx (f + i) (by omega)
    rw [if_neg (by omega), e]
    refine ⟨b, off + f, by simp [Addr.add], ?_⟩
    rw [show off + f + i = off + (f + i) by omega, h1]
    simp
theorem slm8 {w : World} {ρ : Operand → Value} {o : Oper} {x y z : Operand} {ao : Option Addr} {n c : Nat} {vy vz v : Value} (hop : o.op = .slice 44 x (some y) (some z) none) (hx : ρ x = .slice ao n c) (hy : ρ y = vy) (hz : ρ z = vz) (h : (Instr.slice 44 (.slice ao n c) (some vy) (some vz) none).run Tryz.prog w = .ok v w) : (execOp ρ o).run Tryz.prog w = .ok (.value v) w := by
  obtain ⟨dst, op, type, pos, after, guard⟩ := o
  simp only at hop
  subst hop
  simp [execOp, hx, hy, hz, Instr.sliceAt, h, Result.andThen]
set_option maxRecDepth 100000 in
set_option maxHeartbeats 1000000 in
theorem placesM_any (t : T) (hI : InT t) (d : ND) (w : World) (ht : Tabs w) (hT : TR w (fun _ => True) t d.v) (ao : Option Addr) (cap : Nat) (xs : List Int) (hx : RdC32 w ao xs) (hcap : xs.length ≤ cap) (hxl : xs.length ≤ 9223372036854775807) (f : Nat) (hf : f < 256) :
    Calls Tryz.prog 9 #[d.v, .slice ao xs.length cap, .int .u8 (f : Int)] w fun e w' => e = .returned (.bool true) ∧ Below w.heap.size w w' := by
  have a0 := al1 w (.cells #[.int .i64 d.k, .int .i64 d.a, .slice d.sp d.sl d.sc, .string d.n, .slice d.kp d.kl d.kc] 26)
  have n0 := heap_alloc_new w (.cells #[.int .i64 d.k, .int .i64 d.a, .slice d.sp d.sl d.sc, .string d.n, .slice d.kp d.kl d.kc] 26)
  have hk := known8_any _ (ht.later a0)
  unfold ND.v
  go_enter Tryz.func9, Tryz.ntmps9
  go_wp2_with fail
  with_reducible refine hk.mono ?_
  rintro e W1 ⟨rfl, hb1⟩
  have B1 := nx a0 hb1
  have d1 := (hb1.block w.heap.size (Array.getElem?_eq_some_iff.1 n0).1).trans n0
  clear hk a0 n0 hb1
  have hfw := few_any t hI d W1 (TR.later (fun k hk => B1.block k hk) _ hT)
  obtain ⟨c0, c1, c2, c3, c4⟩ := cells_five d1
  unfold ND.v at hfw
  go_wp2_with fail
  with_reducible refine hfw.mono ?_
  rintro e W2 ⟨rfl, hb2⟩
  have B2 := nx B1 hb2
  have hl1 : w.heap.size < W1.heap.size := (Array.getElem?_eq_some_iff.1 d1).1
  have d2 := (hb2.block w.heap.size hl1).trans d1
  have hl2 : w.heap.size < W2.heap.size := Nat.lt_of_lt_of_le hl1 hb2.size
  clear hfw c0 c1 c2 c3 c4 d1 hb2 B1 hl1
  by_cases hs : sz t ≤ 200
  case neg =>
    rw [decide_eq_false hs]
    go_wp2
    go_ret
    exact ⟨rfl, B2⟩
  rw [decide_eq_true hs]
  by_cases hn : xs.length ≤ 15
  case neg =>
    have hn' : (15 : Int) < (xs.length : Int) := by omega
    go_wp2
    go_ret
    exact ⟨rfl, B2⟩
  have hn' : ¬ (15 : Int) < (xs.length : Int) := by omega
  obtain ⟨n1, hn1⟩ : ∃ n1 : Nat, xs.length + 1 = n1 := ⟨_, rfl⟩
  have hq1 : (xs.length : Int) + 1 = (n1 : Int) := by omega
  have hn10 : (n1 : Int) ≠ 0 := by omega
  obtain ⟨k, hkk⟩ : ∃ k : Nat, f % n1 = k := ⟨_, rfl⟩
  have hkn : k ≤ xs.length := by have := Nat.mod_lt f (show 0 < n1 by omega); omega
  have hm1 : (f : Int) % (n1 : Int) = (k : Int) := by exact_mod_cast hkk
  have hm2 : (f : Int).tmod (n1 : Int) = (k : Int) := by rw [Int.tmod_eq_emod_of_nonneg (by omega)]; exact hm1
  have HN1 := hide hn1
  clear hn1 hkk
  have T2 := TR.later (fun k hk => B2.block k hk) _ hT
  have hps : (E.pre t t).length ≤ 1000000 := by unfold sz at hs; omega
  have hcl := endsM_any t d W2 (ht.later B2) T2 hps hI ao cap xs (hx.later B2) (by omega) hcap (k : Int)
  obtain ⟨c0, c1, c2, c3, c4⟩ := cells_five d2
  unfold ND.v at hcl
  have HT2 := hide T2
  clear T2
  go_wp2_with fail
  with_reducible refine hcl.mono ?_
  rintro e W3 ⟨⟨v, zs, rfl, ho, he⟩, hb3⟩
  obtain ⟨lo, lc, rfl, hri⟩ := own_rdi ho
  obtain ⟨c, hc0, hcN, hcS⟩ := ends_by hkn he
  have hpre := by_pre (c := c) (n := xs.length - k) (fun m hm => by
    by_cases h : AllP t ((xs.drop k).take m)
    · exact ⟨_, (hcS m hm).1 h⟩
    · exact ⟨[], by rw [(hcS m hm).2 h]; simp⟩)
  rw [hcN] at hpre
  have B3 := nx B2 hb3
  have d3 := (hb3.block w.heap.size hl2).trans d2
  have T3 := hide (TR.later (fun k hk => hb3.block k hk) _ HT2.out)
  have hl3 : w.heap.size < W3.heap.size := Nat.lt_of_lt_of_le hl2 hb3.size
  have HS := hide hcS
  have HP := hide hpre
  have HC0 := hide hc0
  have HCN := hide hcN
  have HR := hide hri
  have HE0 := hide he
  clear hcl he ho hb3 c0 c1 c2 c3 c4 d2 B2 hl2 HT2 hcS hpre hc0 hcN hri
  go_wp2
  rw [show decide ((15 : Int) < (xs.length : Int)) = false from decide_eq_false (by omega)]
  have hzl := ends_len HE0.out
  go_loopw [9, 10] (fun p u wr => ∃ nn to : Nat, p = .int .i64 (nn : Int) ∧ u = .int .i64 (to : Int) ∧ k ≤ to ∧ to ≤ n1 ∧ Hid (nn = (c (to - k)).length) ∧ nn ≤ to ∧ Below W3.heap.size W3 wr) (fun _ u _ => n1 - (intOf u).toNat)
  case atStart => exact ⟨0, k, rfl, rfl, Nat.le_refl _, by have := HN1.out; omega, hide (by rw [Nat.sub_self, HC0.out]; rfl), Nat.zero_le _, Below.refl _ _⟩
  case round =>
    obtain ⟨nn, to, rfl, rfl, hk1, hto, HNN, hnt, hB⟩ := hrel
    have hn17 : n1 ≤ 16 := by have := HN1.out; omega
    have dz := (hB.block w.heap.size hl3).trans d3
    have Tz := hide (TR.later (fun k hk => hB.block k hk) _ T3.out)
    have Bz := nx B3 hB
    have hlz : w.heap.size < wr.heap.size := Nat.lt_of_lt_of_le hl3 hB.size
    by_cases hle : to ≤ xs.length
    · obtain ⟨a', hsl, hrd⟩ := cut_mid8 (hx.later Bz) k to hk1 hle hcap
      have HH := hide (HS.out (to - k) (by omega))
      have hyl : ((xs.drop k).take (to - k)).length ≤ 15 := by simp; omega
      obtain ⟨ys, hys⟩ : ∃ ys, (xs.drop k).take (to - k) = ys := ⟨_, rfl⟩
      have HBI := hide (fun zs2 (h : BegP t xs (to : Int) zs2) => begs_iff hk1 hle h)
      rw [hys] at hsl hrd HH hyl HBI
      have hcl := allM_any t d wr.drew (ht.later Bz.drew) (TR.later (w := wr) (W := wr.drew) (fun _ _ => rfl) _ Tz.out) hps hI a' (cap - k) ys hrd (by omega)
      unfold ND.v at hcl
      clear hys
      go_wp2_with fail
      refine U.Reg.start (B := wr.heap.size) (by kernel_rfl) ?_
      refine U.Reg.take (fun _ _ _ _ _ h => h) 0 _ 42 (.agg #[.int .i64 d.k, .int .i64 d.a, .slice d.sp d.sl d.sc, .string d.n, .slice d.kp d.kl d.kc]) rfl (by kernel_rfl) (by kernel_rfl) (by kernel_rfl) rfl (by kernel_rfl) (by kernel_rfl) (fun _ hb => Reg.ldN rfl rfl ((hb.block _ hlz).trans dz)) ?_
      refine U.Reg.take (fun _ _ _ _ _ h => h) 1 _ 43 (.slice ao xs.length cap) rfl (by kernel_rfl) (by kernel_rfl) (by kernel_rfl) rfl (by kernel_rfl) (by kernel_rfl) (fun _ _ => by kernel_rfl) ?_
      refine U.Reg.take (fun _ _ _ _ _ h => h) 2 _ 44 (.int .i64 (k : Int)) rfl (by kernel_rfl) (by kernel_rfl) (by kernel_rfl) rfl (by kernel_rfl) (by kernel_rfl) (fun _ _ => by kernel_rfl) ?_
      refine U.Reg.take (fun _ _ _ _ _ h => h) 3 _ 45 (.int .i64 (to : Int)) rfl (by kernel_rfl) (by kernel_rfl) (by kernel_rfl) rfl (by kernel_rfl) (by kernel_rfl) (fun _ _ => by kernel_rfl) ?_
      refine U.Reg.take (fun _ _ _ _ _ h => h) 4 _ 46 (.slice a' ys.length (cap - k)) rfl (by kernel_rfl) (by kernel_rfl) (by kernel_rfl) rfl (by kernel_rfl) (by kernel_rfl) (fun wx _ => slm8 rfl (by kernel_rfl) (by kernel_rfl) (by kernel_rfl) (hsl wx)) ?_
      refine U.Reg.call 5 _ 47 37 _ _ #[.agg #[.int .i64 d.k, .int .i64 d.a, .slice d.sp d.sl d.sc, .string d.n, .slice d.kp d.kl d.kc], .slice a' ys.length (cap - k)] rfl (by kernel_rfl) rfl (by kernel_rfl) (by kernel_rfl) rfl (by kernel_rfl) (by kernel_rfl) (hcl) ?_
      rintro e W4 ⟨⟨b, rfl, hb⟩, hb4⟩
      refine ⟨_, wr.heap.size, rfl, Nat.le_refl _, hb4, ?_⟩
      refine U.Reg.only 6 _ 11 rfl (by kernel_rfl) rfl (by kernel_rfl) (by kernel_rfl) ⟨.bool b, W4, wr.heap.size, by kernel_rfl, Nat.le_refl _, Below.refl _ _, ?_⟩
      refine U.Reg.done (by kernel_rfl) ?_
      simp only [U.Reg.ov, Act.put, List.setIfInBounds_toArray, List.set_cons_succ, List.set_cons_zero]
      have b4 : Below wr.heap.size wr W4 := (Below.refl _ wr).drew.trans hb4
      have B4 := nx Bz b4
      have C4 := nx hB b4
      have d4 := (b4.block w.heap.size hlz).trans dz
      have T4 := hide (TR.later (fun k hk => b4.block k hk) _ Tz.out)
      have hl4 : w.heap.size < W4.heap.size := Nat.lt_of_lt_of_le hlz b4.size
      have HB := hide hb
      clear hcl hb hb4 hsl hrd dz Tz b4 hlz hB
      cases b with
      | true =>
        have HA : AllP t ys := HB.out.1 rfl
        have HV : Hid (∀ q : Bool, (q = true ↔ AllP t ys) → q = true) := hide (fun q hq => hq.2 HA)
        have hc1 := HH.out.1 HA
        obtain ⟨l, hl⟩ := HP.out (to - k + 1) (by omega)
        have hz1 : zs[nn]? = some (to : Int) := by
          rw [hl, hc1, List.append_assoc, HNN.out, List.getElem?_append_right (Nat.le_refl _), Nat.sub_self]
          simp; omega
        have hlt : nn < zs.length := (List.getElem?_eq_some_iff.1 hz1).1
        have hzv : zs[nn] = (to : Int) := (List.getElem?_eq_some_iff.1 hz1).2
        obtain ⟨g, off, hlo, hcl0⟩ := (HR.out.later C4) nn hlt
        rw [hzv] at hcl0
        have HNN2 : Hid (nn + 1 = (c (to + 1 - k)).length) := hide (by rw [show to + 1 - k = to - k + 1 by omega, hc1, List.length_append, ← HNN.out]; rfl)
        subst hlo
        clear HB HA hc1 hl hz1 hzv HNN HH
        have hcl := begsM_any t d W4 (ht.later B4) T4.out hps hI ao cap xs (hx.later B4) (by omega) hcap (to : Int)
        obtain ⟨c0, c1, c2, c3, c4⟩ := cells_five d4
        unfold ND.v at hcl
        go_wp2_with fail
        with_reducible refine hcl.mono ?_
        rintro e W5 ⟨⟨v2, zs2, rfl, ho2, he2⟩, hb5⟩
        obtain ⟨bo, bc, rfl, hri2⟩ := own_rdi ho2
        have hbl := begs_len he2
        have HI := hide (HBI.out zs2 he2)
        have HR2 := hide hri2
        have C5 := nx C4 hb5
        clear hcl ho2 he2 hri2 c0 c1 c2 c3 c4 d4 T4 hb5 B4 C4
        go_wp2
        go_loopw [13, 14] (fun p u wz => ∃ (q : Bool) (x : Nat), p = .bool q ∧ u = .int .i64 (x : Int) ∧ x ≤ zs2.length ∧ Hid (q = true ↔ (k : Int) ∈ zs2.take x) ∧ Below W5.heap.size W5 wz) (fun _ u _ => zs2.length - (intOf u).toNat)
        case atStart => exact ⟨false, 0, rfl, rfl, Nat.zero_le _, hide (by simp), Below.refl _ _⟩
        case round =>
          obtain ⟨q, x, rfl, rfl, hxz, HQ, hBw⟩ := hrel
          by_cases hx2 : x < zs2.length
          · obtain ⟨b0, off, hbo, hcell⟩ := (HR2.out.later hBw) x hx2
            have HT1 : Hid (zs2.take (x + 1) = zs2.take x ++ [zs2[x]]) := hide (List.take_succ_eq_append_getElem hx2)
            obtain ⟨z, hz⟩ : ∃ z, zs2[x] = z := ⟨_, rfl⟩
            rw [hz] at hcell HT1
            subst hbo
            clear hz
            cases q with
            | true =>
              have HQ2 : Hid (true = true ↔ (k : Int) ∈ zs2.take (x + 1)) := hide ⟨fun _ => by rw [HT1.out]; exact List.mem_append_left _ (HQ.out.1 rfl), fun _ => rfl⟩
              clear HQ
              go_wp2
              exact ⟨⟨true, x + 1, rfl, by go_num, by omega, HQ2, hBw⟩, by simp [intOf]; omega⟩
            | false =>
              have HQ2 : Hid ((z == (k : Int)) = true ↔ (k : Int) ∈ zs2.take (x + 1)) := hide (by
                rw [HT1.out, List.mem_append, List.mem_singleton]
                constructor
                · intro h; exact .inr (by simpa using (beq_iff_eq.1 h).symm)
                · rintro (h | h)
                  · exact absurd (HQ.out.2 h) (by decide)
                  · rw [h]; simp)
              clear HQ
              go_wp2
              exact ⟨⟨_, x + 1, rfl, by go_num, by omega, HQ2, hBw⟩, by simp [intOf]; omega⟩
          · obtain rfl : x = zs2.length := by omega
            rw [List.take_length] at HQ
            obtain rfl : q = true := HV.out q (HQ.out.trans HI.out)
            have C6 := nx C5 hBw
            clear HQ hBw
            go_wp2
            exact ⟨⟨nn + 1, to + 1, by go_num, by go_num, by omega, by omega, HNN2, by omega, C6⟩, by simp [intOf]; omega⟩
      | false =>
        have HA : ¬ AllP t ys := fun h => by cases HB.out.2 h
        have HV : Hid (∀ q : Bool, (q = true ↔ AllP t ys) → q = false) := hide (fun q hq => by
          cases q with
          | false => rfl
          | true => exact absurd (hq.1 rfl) HA)
        have hc1 := HH.out.2 HA
        have HNN2 : Hid (nn = (c (to + 1 - k)).length) := hide (by rw [show to + 1 - k = to - k + 1 by omega, hc1]; exact HNN.out)
        clear HB HA hc1 HNN HH
        have hcl := begsM_any t d W4 (ht.later B4) T4.out hps hI ao cap xs (hx.later B4) (by omega) hcap (to : Int)
        obtain ⟨c0, c1, c2, c3, c4⟩ := cells_five d4
        unfold ND.v at hcl
        go_wp2_with fail
        with_reducible refine hcl.mono ?_
        rintro e W5 ⟨⟨v2, zs2, rfl, ho2, he2⟩, hb5⟩
        obtain ⟨bo, bc, rfl, hri2⟩ := own_rdi ho2
        have hbl := begs_len he2
        have HI := hide (HBI.out zs2 he2)
        have HR2 := hide hri2
        have C5 := nx C4 hb5
        clear hcl ho2 he2 hri2 c0 c1 c2 c3 c4 d4 T4 hb5 B4 C4
        go_wp2
        go_loopw [13, 14] (fun p u wz => ∃ (q : Bool) (x : Nat), p = .bool q ∧ u = .int .i64 (x : Int) ∧ x ≤ zs2.length ∧ Hid (q = true ↔ (k : Int) ∈ zs2.take x) ∧ Below W5.heap.size W5 wz) (fun _ u _ => zs2.length - (intOf u).toNat)
        case atStart => exact ⟨false, 0, rfl, rfl, Nat.zero_le _, hide (by simp), Below.refl _ _⟩
        case round =>
          obtain ⟨q, x, rfl, rfl, hxz, HQ, hBw⟩ := hrel
          by_cases hx2 : x < zs2.length
          · obtain ⟨b0, off, hbo, hcell⟩ := (HR2.out.later hBw) x hx2
            have HT1 : Hid (zs2.take (x + 1) = zs2.take x ++ [zs2[x]]) := hide (List.take_succ_eq_append_getElem hx2)
            obtain ⟨z, hz⟩ : ∃ z, zs2[x] = z := ⟨_, rfl⟩
            rw [hz] at hcell HT1
            subst hbo
            clear hz
            cases q with
            | true =>
              have HQ2 : Hid (true = true ↔ (k : Int) ∈ zs2.take (x + 1)) := hide ⟨fun _ => by rw [HT1.out]; exact List.mem_append_left _ (HQ.out.1 rfl), fun _ => rfl⟩
              clear HQ
              go_wp2
              exact ⟨⟨true, x + 1, rfl, by go_num, by omega, HQ2, hBw⟩, by simp [intOf]; omega⟩
            | false =>
              have HQ2 : Hid ((z == (k : Int)) = true ↔ (k : Int) ∈ zs2.take (x + 1)) := hide (by
                rw [HT1.out, List.mem_append, List.mem_singleton]
                constructor
                · intro h; exact .inr (by simpa using (beq_iff_eq.1 h).symm)
                · rintro (h | h)
                  · exact absurd (HQ.out.2 h) (by decide)
                  · rw [h]; simp)
              clear HQ
              go_wp2
              exact ⟨⟨_, x + 1, rfl, by go_num, by omega, HQ2, hBw⟩, by simp [intOf]; omega⟩
          · obtain rfl : x = zs2.length := by omega
            rw [List.take_length] at HQ
            obtain rfl : q = false := HV.out q (HQ.out.trans HI.out)
            have C6 := nx C5 hBw
            clear HQ hBw
            go_wp2
            exact ⟨⟨nn, to + 1, by go_num, by go_num, by omega, by omega, HNN2, by omega, C6⟩, by simp [intOf]; omega⟩
    · obtain rfl : to = n1 := by have := HN1.out; omega
      have hnz : nn = zs.length := by
        have h1 := HNN.out; have h2 := HCN.out; have h3 := HN1.out
        rw [h1, ← h2, ← h3]; congr 1; congr 1; omega
      subst hnz
      have hcl := endsM_any t d wr (ht.later Bz) Tz.out hps hI ao cap xs (hx.later Bz) (by omega) hcap (-1)
      obtain ⟨c0, c1, c2, c3, c4⟩ := cells_five dz
      unfold ND.v at hcl
      clear HNN HCN
      go_wp2_with fail
      with_reducible refine hcl.mono ?_
      rintro e W4 ⟨⟨v4, z4, rfl, ho4, he4⟩, hb4⟩
      obtain rfl := ends_none (by omega) he4
      obtain ⟨o4, p4, rfl, _⟩ := own_rdi ho4
      have B4 := nx Bz hb4
      have d4 := (hb4.block w.heap.size hlz).trans dz
      have T4 := TR.later (fun k hk => hb4.block k hk) _ Tz.out
      clear hcl ho4 he4 c0 c1 c2 c3 c4 dz Tz hb4
      have hcl := endsM_any t d W4 (ht.later B4) T4 hps hI ao cap xs (hx.later B4) (by omega) hcap (to : Int)
      obtain ⟨c0, c1, c2, c3, c4⟩ := cells_five d4
      unfold ND.v at hcl
      rw [List.length_nil]
      have hns : ¬ (0 ≤ (to : Int) ∧ (to : Int) ≤ (xs.length : Int)) := by omega
      have HNS := hide hns
      clear T4 hns
      go_wp2_with fail
      with_reducible refine hcl.mono ?_
      rintro e W5 ⟨⟨v5, z5, rfl, ho5, he5⟩, hb5⟩
      obtain rfl := ends_none HNS.out he5
      obtain ⟨o5, p5, rfl, _⟩ := own_rdi ho5
      rw [List.length_nil]
      have B5 := nx B4 hb5
      clear hcl ho5 he5 c0 c1 c2 c3 c4 d4 hb5 B4
      go_wp2
      go_ret
      exact ⟨rfl, B5⟩
end Go.Proofs.YteaaijhppmkfeaaGreatDoor
