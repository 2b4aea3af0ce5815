/- MatchCounts. -/
import Derived.Test.YteaaijhppmkfeaaGreatDoorCtp
import Derived.BigQuiet
namespace Go.Proofs.YteaaijhppmkfeaaGreatDoor
open Go.RowKit Go.Shelf
open E (Ps Rx T rxOf Vp)
attribute [local go_sem] Oper.semAt_some
theorem rdc_of_rd {w : World} {ao : Option Addr} {xs : List Int} (h : Rd w ao (cI xs)) : RdC32 w ao xs := fun i hi => by
  obtain ⟨b, off, e, hc⟩ := h i (by simpa [cI] using hi)
  exact ⟨b, off, e, by simpa [cI] using hc⟩
theorem own_ints {w : World} {B : Nat} {v : Value} {zs : List Int} (h : OwnI w B v zs) (hz : zs ≠ []) : ∃ g cap, v = .slice (some ⟨g, 0, none⟩) zs.length cap ∧ ∀ i (hi : i < zs.length), w.cell? ⟨g, i, none⟩ = some (.int .i64 zs[i]) := by
  obtain ⟨g, cap, rfl, _, _, _, _, _, hH⟩ := Lib.holds_of_ownsRow h (by
    rintro rfl
    obtain ⟨_, ⟨_, h⟩ | ⟨_, _, _, e, _⟩⟩ := h
    · exact hz (List.eq_nil_of_length_eq_zero h)
    · cases e)
  refine ⟨g, cap, rfl, fun i hi => ?_⟩
  have h0 := (hH i (by simpa using hi)).1
  simpa [List.getElem?_eq_getElem hi] using h0
theorem frz_cells {w : World} {b : Nat} {cs : Array Value} {t : TypeId} (h : w.heap[b]? = some (.cells cs t)) (j : Nat) : w.frozen? ⟨b, j, none⟩ = false := by simp [World.frozen?, h]
theorem remI8 {w : World} {ρ : Operand → Value} {o : Oper} {x y : Operand} {m n r : Int} (hop : o.op = .binOp .rem 3 x y 3) (hx : ρ x = .int .i64 m) (hy : ρ y = .int .i64 n) (hn : n ≠ 0) (h : m.tmod n = r) :
    (execOp ρ o).run Tryz.prog w = .ok (.value (.int .i64 r)) w := by
  obtain ⟨dst, op, type, pos, after, guard⟩ := o
  simp only at hop
  subst hop
  subst h
  simp [execOp, hx, hy, eqGuard, binOp, Op.intDiv, hn]
theorem eqI8 {w : World} {ρ : Operand → Value} {o : Oper} {x y : Operand} {m n : Int} {b : Bool} (hop : o.op = .binOp .eql 3 x y 3) (hx : ρ x = .int .i64 m) (hy : ρ y = .int .i64 n) (h : (m == n) = b) :
    (execOp ρ o).run Tryz.prog w = .ok (.value (.bool b)) w := by
  obtain ⟨dst, op, type, pos, after, guard⟩ := o
  simp only at hop
  subst hop
  subst h
  simp [execOp, hx, hy, go_sem]
def dA (b : Nat) : ND := ⟨1, 0, some ⟨b, 0, none⟩, 1, 1, ⟨#[]⟩, none, 0, 0⟩
set_option maxRecDepth 100000 in
set_option maxHeartbeats 1000000 in
theorem counts_any (w : World) (ht : Tabs w) (n k : Nat) (hn : n < 256) (hk : k < 256) : Calls Tryz.prog 12 #[.int .u8 (n : Int), .int .u8 (k : Int)] w fun e w' => e = .returned (.bool true) ∧ Below w.heap.size w w' := by
  have hkn := known8_any w ht
  obtain ⟨j, hj⟩ : ∃ j : Nat, k % 5 = j := ⟨_, rfl⟩
  have hj1 : (k : Int) % 5 = (j : Int) := by omega
  have hj4 : j ≤ 4 := by omega
  obtain ⟨m, hm⟩ : ∃ m : Nat, j + 1 = m := ⟨_, rfl⟩
  have hm1 : (j : Int) + 1 = (m : Int) := by omega
  have hm5 : m ≤ 5 := by omega
  have hm0 : 0 < m := by omega
  have HM := hide hm
  obtain ⟨N, hN⟩ : ∃ N : Nat, n % 30 = N := ⟨_, rfl⟩
  have hN1 : (n : Int) % 30 = (N : Int) := by omega
  have hN29 : N ≤ 29 := by omega
  clear hj hm hN
  go_enter Tryz.func12, Tryz.ntmps12
  go_wp2_with fail
  refine hkn.mono ?_
  rintro e W1 ⟨rfl, hb1⟩
  clear hkn
  go_wp2
  have a0 := al1 W1 (.cells #[.int .i32 97, .int .i32 97] 69)
  have n0 := heap_alloc_new W1 (.cells #[.int .i32 97, .int .i32 97] 69)
  have a1 := al1 (W1.alloc (.cells #[.int .i32 97, .int .i32 97] 69)) (.cells #[.int .i64 1, .int .i64 0, .slice (some ⟨W1.heap.size, 0, none⟩) 1 1, .string ⟨#[]⟩, .slice none 0 0] 26)
  have n1 := heap_alloc_new (W1.alloc (.cells #[.int .i32 97, .int .i32 97] 69)) (.cells #[.int .i64 1, .int .i64 0, .slice (some ⟨W1.heap.size, 0, none⟩) 1 1, .string ⟨#[]⟩, .slice none 0 0] 26)
  have a2 := al1 ((W1.alloc (.cells #[.int .i32 97, .int .i32 97] 69)).alloc (.cells #[.int .i64 1, .int .i64 0, .slice (some ⟨W1.heap.size, 0, none⟩) 1 1, .string ⟨#[]⟩, .slice none 0 0] 26)) (.cells #[.int .i64 1, .int .i64 0, .slice (some ⟨W1.heap.size, 0, none⟩) 1 1, .string ⟨#[]⟩, .slice none 0 0] 26)
  have n2 := heap_alloc_new ((W1.alloc (.cells #[.int .i32 97, .int .i32 97] 69)).alloc (.cells #[.int .i64 1, .int .i64 0, .slice (some ⟨W1.heap.size, 0, none⟩) 1 1, .string ⟨#[]⟩, .slice none 0 0] 26)) (.cells #[.int .i64 1, .int .i64 0, .slice (some ⟨W1.heap.size, 0, none⟩) 1 1, .string ⟨#[]⟩, .slice none 0 0] 26)
  rw [World.size_alloc] at n1
  rw [World.size_alloc, World.size_alloc] at n2
  have f1 := (a2.block (W1.heap.size + 1) (by simp)).trans n1
  have f0 := (a2.block W1.heap.size (by simp; omega)).trans ((a1.block W1.heap.size (by simp)).trans n0)
  have bX := nx hb1 (nx a0 (nx a1 a2))
  have sA := hb1.size
  obtain ⟨X, hX⟩ : ∃ X, ((W1.alloc (.cells #[.int .i32 97, .int .i32 97] 69)).alloc (.cells #[.int .i64 1, .int .i64 0, .slice (some ⟨W1.heap.size, 0, none⟩) 1 1, .string ⟨#[]⟩, .slice none 0 0] 26)).alloc (.cells #[.int .i64 1, .int .i64 0, .slice (some ⟨W1.heap.size, 0, none⟩) 1 1, .string ⟨#[]⟩, .slice none 0 0] 26) = X := ⟨_, rfl⟩
  rw [hX] at f0 f1 n2 bX ⊢
  clear hX a0 n0 a1 n1 a2 hb1
  generalize W1.heap.size = R at *
  have hA : TR X (fun b => b ≠ R + 1 + 1) tA (dA R).v := by
    refine tr_set 0 1 (S := [(97, 97)]) (fun i hi => ?_)
    have hi0 : i = 0 := by simpa using hi
    subst hi0
    exact ⟨R, 0, rfl, by simp [World.cell?, f0], by simp [World.cell?, f0]⟩
  have HA0 := hide hA
  clear hA f0
  rw [hj1]
  go_loopw [8] (fun u wr => ∃ q i : Nat, u = .int .i64 (q : Int) ∧ Hid (q = i + 1) ∧ 1 ≤ q ∧ q ≤ m ∧ (∃ d : ND, wr.heap[R + 1 + 1]? = some (.cells #[.int .i64 d.k, .int .i64 d.a, .slice d.sp d.sl d.sc, .string d.n, .slice d.kp d.kl d.kc] 26) ∧ Hid (TR wr (fun b => b ≠ R + 1 + 1) (aT i) d.v)) ∧ wr.heap[R + 1]? = some (.cells #[.int .i64 1, .int .i64 0, .slice (some ⟨R, 0, none⟩) 1 1, .string ⟨#[]⟩, .slice none 0 0] 26) ∧ Hid (TR wr (fun b => b ≠ R + 1 + 1) tA (dA R).v) ∧ Below w.heap.size w wr) (fun u _ => m - (intOf u).toNat)
  case atStart => exact ⟨1, 0, rfl, hide rfl, Nat.le_refl _, hm0, ⟨dA R, n2, HA0⟩, f1, HA0, bX⟩
  case round =>
    obtain ⟨q, i, rfl, HQ, hq1, hqm, ⟨d, hd, HT⟩, hf, HA, hB⟩ := hrel
    clear n2 f1 bX HA0
    have hs7 : R + 1 + 1 < wr.heap.size := (Array.getElem?_eq_some_iff.1 hd).1
    by_cases hlt : q < m
    · obtain ⟨c0, c1, c2, c3, c4⟩ := cells_five hd
      obtain ⟨g0, g1, g2, g3, g4⟩ := cells_five hf
      have hcl := two_ok (fun b => b ≠ R + 1 + 1) 4 d (dA R) (aT i) tA wr HT.out HA.out (fun b hb => by omega)
      unfold ND.v dA at hcl
      go_wp2_with fail
      with_reducible refine hcl.mono ?_
      rintro e W4 ⟨⟨de, rfl, ht4⟩, hb4⟩
      clear c0 c1 c2 c3 c4 g0 g1 g2 g3 g4 hcl
      have hd4 := (hb4.block (R + 1 + 1) hs7).trans hd
      have hf4 := (hb4.block (R + 1) (by omega)).trans hf
      have hfz := fun j => frz_cells hd4 j
      obtain ⟨c0, c1, c2, c3, c4⟩ := cells_five hd4
      have z0 := hfz 0
      have z1 := hfz 1
      have z2 := hfz 2
      have z3 := hfz 3
      have z4 := hfz 4
      have hp4 := putN_box (v0 := .int .i64 de.k) (v1 := .int .i64 de.a) (v2 := .slice de.sp de.sl de.sc) (v3 := .string de.n) (v4 := .slice de.kp de.kl de.kc) hd4
      have ho4 : (putN W4 (R + 1 + 1) (.int .i64 de.k) (.int .i64 de.a) (.slice de.sp de.sl de.sc) (.string de.n) (.slice de.kp de.kl de.kc)).heap[R + 1]? = _ := (putN_other (by omega)).trans hf4
      have hT4 := hide (TR.but (W := putN W4 (R + 1 + 1) (.int .i64 de.k) (.int .i64 de.a) (.slice de.sp de.sl de.sc) (.string de.n) (.slice de.kp de.kl de.kc)) (x := R + 1 + 1) (fun k _ hk => putN_other hk) (noI_node hd4) (fun h => h rfl) _ ht4)
      have hA4 := hide (TR.but (W := putN W4 (R + 1 + 1) (.int .i64 de.k) (.int .i64 de.a) (.slice de.sp de.sl de.sc) (.string de.n) (.slice de.kp de.kl de.kc)) (x := R + 1 + 1) (fun k _ hk => putN_other hk) (noI_node hd4) (fun h => h rfl) _ (TR.later (fun k hk => hb4.block k hk) _ HA.out))
      have hB4 : Below w.heap.size w (putN W4 (R + 1 + 1) (.int .i64 de.k) (.int .i64 de.a) (.slice de.sp de.sl de.sc) (.string de.n) (.slice de.kp de.kl de.kc)) := putN_below (hB.trans (hb4.mono (by omega))) (by omega)
      have HQ2 : Hid (q + 1 = i + 1 + 1) := hide (by rw [HQ.out])
      go_wp2
      exact ⟨⟨q + 1, i + 1, by go_num, HQ2, by omega, by omega, ⟨de, hp4, hT4⟩, ho4, hA4, hB4⟩, by simp [intOf]; omega⟩
    · obtain rfl : q = m := by omega
      have hji : i = j := by have := HM.out; have := HQ.out; omega
      subst hji
      have HT1 : Hid (TR wr (fun _ => True) (aT i) d.v) := hide (TR.mono (fun _ _ _ => trivial) _ HT.out)
      clear HQ HT HA hf
      obtain ⟨Wr, hWr⟩ : ∃ Wr, wr = Wr := ⟨_, rfl⟩
      rw [hWr] at hd HT1 hB hs7 ⊢
      clear hWr
      go_wp2
      go_loopw [9, 10] (fun p u wz => ∃ c : Nat, u = .int .i64 (c : Int) ∧ c ≤ N ∧ Hid (Own wz Wr.heap.size 21 p (cI (List.replicate c 97))) ∧ Below Wr.heap.size Wr wz) (fun _ u _ => N - (intOf u).toNat)
      case atStart => exact ⟨0, rfl, Nat.zero_le _, hide (own_nil _ _ _), Below.refl _ _⟩
      case round =>
        obtain ⟨c, rfl, hc, HO, hBz⟩ := hrel
        by_cases hcN : c < N
        · have hsz := hBz.size
          go_wp2_with (at_builtin; refine wpl_appg Tryz.underlying44 info21 rfl (by decide) rfl _ _ rfl Wr.heap.size _ (cI (List.replicate c 97)) (some ⟨wr.heap.size, 0, none⟩) [.int .i32 97] 1 1 rfl rfl rfl (HO.out.later (al1 _ _)) (by simp; omega) (rd_new _ _ _ _ _ rfl) (by simp [Value.oneCell']) (fun e => by cases e) (by simp [cI]; omega) ?_; intro v3 w3 hv3 hb3 hg3)
          exact ⟨⟨c + 1, by go_num, by omega, hide (by rw [List.replicate_succ']; unfold cI; rw [List.map_append]; exact hv3), (hBz.alloc hsz _).trans hb3⟩, by simp [intOf]; omega⟩
        · obtain rfl : c = N := by omega
          obtain ⟨ao, cap, rfl, hcap, hno, hrd⟩ := HO.out.rd
          have hlen : (cI (List.replicate c 97)).length = c := by simp [cI]
          rw [hlen] at hcap ⊢
          have hR32 : RdC32 wr ao (List.replicate c 97) := rdc_of_rd hrd
          have hB2 := nx hB hBz
          have hd2 := (hBz.block (R + 1 + 1) hs7).trans hd
          have HT2 := hide (TR.later (fun k hk => hBz.block k hk) _ HT1.out)
          have hs2 : R + 1 + 1 < wr.heap.size := Nat.lt_of_lt_of_le hs7 hBz.size
          clear HO hrd hlen hd HT1 hB hs7 hBz
          obtain ⟨c0, c1, c2, c3, c4⟩ := cells_five hd2
          have hcl := one_ok (fun _ => True) 6 d (aT i) wr HT2.out (fun _ _ => trivial)
          unfold ND.v at hcl
          go_wp2_with fail
          with_reducible refine hcl.mono ?_
          rintro e W5 ⟨⟨d5, rfl, ht5⟩, hb5⟩
          clear hcl c0 c1 c2 c3 c4
          have hcl := endsM_any (aS 6 i) d5 W5 (ht.later (nx hB2 hb5)) ht5 (by rw [aS_len]; omega) (aS_nodeB 6 i) ao cap (List.replicate c 97) (hR32.later hb5) (by simp; omega) (by simpa using hcap) 0
          rw [List.length_replicate] at hcl
          unfold ND.v at hcl
          go_wp2_with fail
          with_reducible refine hcl.mono ?_
          rintro e W6 ⟨⟨v, zs, rfl, ho, he⟩, hb6⟩
          have hz := ends_aS i c hj4 he
          obtain ⟨L, hL⟩ : ∃ L, c / (i + 1) = L := ⟨_, rfl⟩
          rw [hL] at hz
          have hL29 : L ≤ 29 := by have := Nat.div_le_self c (i + 1); omega
          have hzl : zs.length = L + 1 := by rw [hz]; simp
          obtain ⟨g, gcap, rfl, hcell⟩ := own_ints ho (by intro e; rw [e] at hzl; simp at hzl)
          have HC : Hid (∀ x, x < L + 1 → W6.cell? ⟨g, x, none⟩ = some (.int .i64 ((x * q : Nat) : Int))) := hide (fun x hx => by
            rw [hcell x (by omega), ← HM.out]
            simp [hz])
          rw [hzl]
          have hq0 : (q : Int) ≠ 0 := by omega
          have hdv : (c : Int).tdiv (q : Int) = (L : Int) := by
            rw [← HM.out, Int.tdiv_eq_ediv_of_nonneg (by omega)]
            exact_mod_cast hL
          have hdw : (c : Int) / (q : Int) = (L : Int) := by
            rw [← HM.out]
            exact_mod_cast hL
          have HB6 := hide (nx hb5 hb6)
          have HL := hide hL
          have hs6 : R + 1 + 1 < W6.heap.size := by have := hb5.size; have := hb6.size; omega
          clear hcl he hz hzl hcell ho hL ht5 hb5 hb6
          go_wp2
          go_loopw [12] (fun u wz => ∃ x : Nat, u = .int .i64 (x : Int) ∧ x ≤ L + 1 ∧ Below W6.heap.size W6 wz) (fun u _ => L + 1 - (intOf u).toNat)
          case atStart => exact ⟨0, rfl, Nat.zero_le _, Below.refl _ _⟩
          case round =>
            obtain ⟨x, rfl, hx, hBw⟩ := hrel
            by_cases hxl : x < L + 1
            · have hc1 := HC.out x hxl
              have hgl := U.cell_lt hc1
              have hc2 := (hBw.cell (p := ⟨g, x, none⟩) hgl).trans hc1
              obtain ⟨y, hy⟩ : ∃ y : Nat, x * q = y := ⟨_, rfl⟩
              rw [hy] at hc2
              have hyb : y ≤ 150 := by rw [← hy]; exact Nat.le_trans (Nat.mul_le_mul (show x ≤ 30 by omega) hm5) (by decide)
              have hym : (q : Int) * (x : Int) = (y : Int) := by rw [← hy, Int.natCast_mul]; exact Int.mul_comm _ _
              clear hy hc1
              go_wp2
              exact ⟨⟨x + 1, by go_num, by omega, hBw⟩, by simp [intOf]; omega⟩
            · have hBZ := nx hB2 (nx HB6.out hBw)
              have bz := nx HB6.out hBw
              have hd := (bz.block (R + 1 + 1) hs2).trans hd2
              have hTz := TR.later (fun k hk => bz.block k hk) _ HT2.out
              have hRz := hR32.later bz
              have hs : R + 1 + 1 < wr.heap.size := Nat.lt_of_lt_of_le hs2 bz.size
              obtain ⟨Wz, hWz⟩ : ∃ Wz, wr = Wz := ⟨_, rfl⟩
              rw [hWz] at hd hTz hRz hBZ hs ⊢
              clear hWz
              have hBd : Below w.heap.size w Wz.drew := hBZ.drew
              have hTd : TR Wz.drew (fun _ => True) (aT i) d.v := TR.later (w := Wz) (W := Wz.drew) (fun _ _ => rfl) _ hTz
              have hRd : RdC32 Wz.drew ao (List.replicate c 97) := hRz
              have h43 := one_ok (fun _ => True) 6 d (aT i) Wz.drew hTd (fun _ _ => trivial)
              unfold ND.v at h43
              obtain ⟨r, hr⟩ : ∃ r : Nat, c % (i + 1) = r := ⟨_, rfl⟩
              have hrq : r < 5 := by have := Nat.mod_lt c (show 0 < i + 1 by omega); omega
              have hrt : (c : Int).tmod (q : Int) = (r : Int) := by
                rw [← HM.out, Int.tmod_eq_emod_of_nonneg (by omega)]
                exact_mod_cast hr
              have A6 := all_aS6 i c hj4
              have A7 := all_aS7 i c hj4
              rw [hr] at A6 A7
              clear hr hdv hdw
              go_wp2_with fail
              by_cases hr0 : r = 0
              · subst hr0
                have HV6 : Hid (∀ b : Bool, (b = true ↔ AllP (aS 6 i) (List.replicate c 97)) → b = true) := hide (fun b hb => hb.2 (A6.2 rfl))
                by_cases hcp : 0 < c
                · have hc0 : decide ((0 : Int) < (c : Int)) = true := decide_eq_true (by omega)
                  have HV7 : Hid (∀ b : Bool, (b = true ↔ AllP (aS 7 i) (List.replicate c 97)) → b = true) := hide (fun b hb => hb.2 (A7.2 ⟨rfl, hcp⟩))
                  refine U.Reg.start (B := Wz.heap.size) (by kernel_rfl) ?_
                  refine U.Reg.take (fun _ _ _ _ _ h => h) 0 _ 67 (.agg #[.int .i64 d.k, .int .i64 d.a, .slice d.sp d.sl d.sc, .string d.n, .slice d.kp d.kl d.kc]) rfl (by kernel_rfl) (by kernel_rfl) (by kernel_rfl) rfl (by kernel_rfl) (by kernel_rfl) (fun _ hb => Reg.ldN rfl rfl ((hb.block _ hs).trans hd)) ?_
                  refine U.Reg.take (fun _ _ _ _ _ h => h) 2 _ 69 (.slice ao c cap) rfl (by kernel_rfl) (by kernel_rfl) (by kernel_rfl) rfl (by kernel_rfl) (by kernel_rfl) (fun _ _ => by kernel_rfl) ?_
                  refine U.Reg.take (fun _ _ _ _ _ h => h) 4 _ 71 (.slice ao c cap) rfl (by kernel_rfl) (by kernel_rfl) (by kernel_rfl) rfl (by kernel_rfl) (by kernel_rfl) (fun _ _ => by kernel_rfl) ?_
                  refine U.Reg.take (fun _ _ _ _ _ h => h) 5 _ 72 (.int .i64 (c : Int)) rfl (by kernel_rfl) (by kernel_rfl) (by kernel_rfl) rfl (by kernel_rfl) (by kernel_rfl) (fun _ _ => by kernel_rfl) ?_
                  refine U.Reg.take (fun _ _ _ _ _ h => h) 6 _ 73 (.int .i64 (q : Int)) rfl (by kernel_rfl) (by kernel_rfl) (by kernel_rfl) rfl (by kernel_rfl) (by kernel_rfl) (fun _ _ => by kernel_rfl) ?_
                  refine U.Reg.take (fun _ _ _ _ _ h => h) 7 _ 74 (.int .i64 0) rfl (by kernel_rfl) (by kernel_rfl) (by kernel_rfl) rfl (by kernel_rfl) (by kernel_rfl) (fun _ _ => remI8 rfl (by kernel_rfl) (by kernel_rfl) hq0 hrt) ?_
                  refine U.Reg.take (fun _ _ _ _ _ h => h) 8 _ 75 (.bool true) rfl (by kernel_rfl) (by kernel_rfl) (by kernel_rfl) rfl (by kernel_rfl) (by kernel_rfl) (fun _ _ => by kernel_rfl) ?_
                  refine U.Reg.call 1 _ 68 43 _ _ #[.int .i64 6, .agg #[.int .i64 d.k, .int .i64 d.a, .slice d.sp d.sl d.sc, .string d.n, .slice d.kp d.kl d.kc]] rfl (by kernel_rfl) rfl (by kernel_rfl) (by kernel_rfl) rfl (by kernel_rfl) (by kernel_rfl) (h43) ?_
                  rintro e W7 ⟨⟨d7, rfl, ht7⟩, hb7⟩
                  refine ⟨_, Wz.heap.size, rfl, Nat.le_refl _, hb7, ?_⟩
                  have h37 := allM_any (aS 6 i) d7 W7 (ht.later (nx hBd hb7)) ht7 (by rw [aS_len]; omega) (aS_nodeB 6 i) ao cap (List.replicate c 97) ((hRd.later hb7)) (by simp; omega)
                  rw [List.length_replicate] at h37
                  unfold ND.v at h37
                  refine U.Reg.call 3 _ 70 37 _ _ #[.agg #[.int .i64 d7.k, .int .i64 d7.a, .slice d7.sp d7.sl d7.sc, .string d7.n, .slice d7.kp d7.kl d7.kc], .slice ao c cap] rfl (by kernel_rfl) rfl (by kernel_rfl) (by kernel_rfl) rfl (by kernel_rfl) (by kernel_rfl) (h37) ?_
                  rintro e W8 ⟨⟨b8, rfl, hb8t⟩, hb8⟩
                  obtain rfl : b8 = true := HV6.out b8 hb8t
                  have hb8' : Below Wz.heap.size W7 W8 := hb8.mono (show Wz.drew.heap.size ≤ _ from hb7.size)
                  refine ⟨_, Wz.heap.size, rfl, Nat.le_refl _, hb8', ?_⟩
                  refine U.Reg.only 9 _ 76 rfl (by kernel_rfl) rfl (by kernel_rfl) (by kernel_rfl) ⟨.bool true, W8, Wz.heap.size, by kernel_rfl, Nat.le_refl _, Below.refl _ _, ?_⟩
                  refine U.Reg.only 10 _ 77 rfl (by kernel_rfl) rfl (by kernel_rfl) (by kernel_rfl) ⟨.bool true, W8, Wz.heap.size, by kernel_rfl, Nat.le_refl _, Below.refl _ _, ?_⟩
                  have bZ8 : Below Wz.heap.size Wz.drew W8 := Below.trans hb7 hb8'
                  have hd8 := (bZ8.block _ hs).trans hd
                  refine U.Reg.take (fun _ _ _ _ _ h => h) 11 _ 78 (.agg #[.int .i64 d.k, .int .i64 d.a, .slice d.sp d.sl d.sc, .string d.n, .slice d.kp d.kl d.kc]) rfl (by kernel_rfl) (by kernel_rfl) (by kernel_rfl) rfl (by kernel_rfl) (by kernel_rfl) (fun _ hb => Reg.ldN rfl rfl ((hb.block _ hs).trans hd8)) ?_
                  refine U.Reg.take (fun _ _ _ _ _ h => h) 13 _ 80 (.slice ao c cap) rfl (by kernel_rfl) (by kernel_rfl) (by kernel_rfl) rfl (by kernel_rfl) (by kernel_rfl) (fun _ _ => by kernel_rfl) ?_
                  refine U.Reg.take (fun _ _ _ _ _ h => h) 15 _ 82 (.slice ao c cap) rfl (by kernel_rfl) (by kernel_rfl) (by kernel_rfl) rfl (by kernel_rfl) (by kernel_rfl) (fun _ _ => by kernel_rfl) ?_
                  refine U.Reg.take (fun _ _ _ _ _ h => h) 16 _ 83 (.int .i64 (c : Int)) rfl (by kernel_rfl) (by kernel_rfl) (by kernel_rfl) rfl (by kernel_rfl) (by kernel_rfl) (fun _ _ => by kernel_rfl) ?_
                  refine U.Reg.take (fun _ _ _ _ _ h => h) 17 _ 84 (.int .i64 (q : Int)) rfl (by kernel_rfl) (by kernel_rfl) (by kernel_rfl) rfl (by kernel_rfl) (by kernel_rfl) (fun _ _ => by kernel_rfl) ?_
                  refine U.Reg.take (fun _ _ _ _ _ h => h) 18 _ 85 (.int .i64 0) rfl (by kernel_rfl) (by kernel_rfl) (by kernel_rfl) rfl (by kernel_rfl) (by kernel_rfl) (fun _ _ => remI8 rfl (by kernel_rfl) (by kernel_rfl) hq0 hrt) ?_
                  refine U.Reg.take (fun _ _ _ _ _ h => h) 19 _ 86 (.bool true) rfl (by kernel_rfl) (by kernel_rfl) (by kernel_rfl) rfl (by kernel_rfl) (by kernel_rfl) (fun _ _ => by kernel_rfl) ?_
                  have h43' := one_ok (fun _ => True) 7 d (aT i) W8 (TR.later (w := Wz.drew) (fun k hk => bZ8.block k hk) _ hTd) (fun _ _ => trivial)
                  unfold ND.v at h43'
                  refine U.Reg.call 12 _ 79 43 _ _ #[.int .i64 7, .agg #[.int .i64 d.k, .int .i64 d.a, .slice d.sp d.sl d.sc, .string d.n, .slice d.kp d.kl d.kc]] rfl (by kernel_rfl) rfl (by kernel_rfl) (by kernel_rfl) rfl (by kernel_rfl) (by kernel_rfl) (h43') ?_
                  rintro e W9 ⟨⟨d9, rfl, ht9⟩, hb9⟩
                  have hb9' : Below Wz.heap.size W8 W9 := hb9.mono bZ8.size
                  refine ⟨_, Wz.heap.size, rfl, Nat.le_refl _, hb9', ?_⟩
                  have bZ9 := bZ8.trans hb9'
                  have h37' := allM_any (aS 7 i) d9 W9 (ht.later (nx hBd bZ9)) ht9 (by rw [aS_len]; omega) (aS_nodeB 7 i) ao cap (List.replicate c 97) (hRd.later bZ9) (by simp; omega)
                  rw [List.length_replicate] at h37'
                  unfold ND.v at h37'
                  refine U.Reg.call 14 _ 81 37 _ _ #[.agg #[.int .i64 d9.k, .int .i64 d9.a, .slice d9.sp d9.sl d9.sc, .string d9.n, .slice d9.kp d9.kl d9.kc], .slice ao c cap] rfl (by kernel_rfl) rfl (by kernel_rfl) (by kernel_rfl) rfl (by kernel_rfl) (by kernel_rfl) (h37') ?_
                  rintro e Wa ⟨⟨ba, rfl, hbat⟩, hba⟩
                  obtain rfl : ba = true := HV7.out ba hbat
                  have hba' : Below Wz.heap.size W9 Wa := hba.mono bZ9.size
                  refine ⟨_, Wz.heap.size, rfl, Nat.le_refl _, hba', ?_⟩
                  refine U.Reg.only 20 _ 87 rfl (by kernel_rfl) rfl (by kernel_rfl) (by kernel_rfl) ⟨.bool true, Wa, Wz.heap.size, by kernel_rfl, Nat.le_refl _, Below.refl _ _, ?_⟩
                  refine U.Reg.take (fun _ _ _ _ _ h => h) 21 _ 88 (.slice ao c cap) rfl (by kernel_rfl) (by kernel_rfl) (by kernel_rfl) rfl (by kernel_rfl) (by kernel_rfl) (fun _ _ => by kernel_rfl) ?_
                  refine U.Reg.take (fun _ _ _ _ _ h => h) 22 _ 89 (.int .i64 (c : Int)) rfl (by kernel_rfl) (by kernel_rfl) (by kernel_rfl) rfl (by kernel_rfl) (by kernel_rfl) (fun _ _ => by kernel_rfl) ?_
                  refine U.Reg.take (fun _ _ _ _ _ h => h) 23 _ 90 (.bool true) rfl (by kernel_rfl) (by kernel_rfl) (by kernel_rfl) rfl (by kernel_rfl) (by kernel_rfl) (fun _ _ => U.Reg.gtr (k := .i64) (m := (c : Int)) (n := 0) rfl (by kernel_rfl) (by kernel_rfl) hc0) ?_
                  refine U.Reg.only 24 _ 91 rfl (by kernel_rfl) rfl (by kernel_rfl) (by kernel_rfl) ⟨.bool true, Wa, Wz.heap.size, by kernel_rfl, Nat.le_refl _, Below.refl _ _, ?_⟩
                  refine U.Reg.only 25 _ 92 rfl (by kernel_rfl) rfl (by kernel_rfl) (by kernel_rfl) ⟨.bool true, Wa, Wz.heap.size, by kernel_rfl, Nat.le_refl _, Below.refl _ _, ?_⟩
                  refine U.Reg.only 26 _ 93 rfl (by kernel_rfl) rfl (by kernel_rfl) (by kernel_rfl) ⟨.bool true, Wa, Wz.heap.size, by kernel_rfl, Nat.le_refl _, Below.refl _ _, ?_⟩
                  refine U.Reg.only 27 _ 4 rfl (by kernel_rfl) rfl (by kernel_rfl) (by kernel_rfl) ⟨.bool true, Wa, Wz.heap.size, by kernel_rfl, Nat.le_refl _, Below.refl _ _, ?_⟩
                  refine U.Reg.done (by kernel_rfl) ?_
                  simp only [U.Reg.ov, Act.put, List.setIfInBounds_toArray, List.set_cons_succ, List.set_cons_zero]
                  go_wp2
                  go_ret
                  exact ⟨rfl, nx hBd (bZ9.trans hba')⟩
                · have hc0 : decide ((0 : Int) < (c : Int)) = false := decide_eq_false (by omega)
                  have HV7 : Hid (∀ b : Bool, (b = true ↔ AllP (aS 7 i) (List.replicate c 97)) → b = false) := hide (fun b hb => by
                    cases b with
                    | false => rfl
                    | true => exact absurd (A7.1 (hb.1 rfl)).2 hcp)
                  refine U.Reg.start (B := Wz.heap.size) (by kernel_rfl) ?_
                  refine U.Reg.take (fun _ _ _ _ _ h => h) 0 _ 67 (.agg #[.int .i64 d.k, .int .i64 d.a, .slice d.sp d.sl d.sc, .string d.n, .slice d.kp d.kl d.kc]) rfl (by kernel_rfl) (by kernel_rfl) (by kernel_rfl) rfl (by kernel_rfl) (by kernel_rfl) (fun _ hb => Reg.ldN rfl rfl ((hb.block _ hs).trans hd)) ?_
                  refine U.Reg.take (fun _ _ _ _ _ h => h) 2 _ 69 (.slice ao c cap) rfl (by kernel_rfl) (by kernel_rfl) (by kernel_rfl) rfl (by kernel_rfl) (by kernel_rfl) (fun _ _ => by kernel_rfl) ?_
                  refine U.Reg.take (fun _ _ _ _ _ h => h) 4 _ 71 (.slice ao c cap) rfl (by kernel_rfl) (by kernel_rfl) (by kernel_rfl) rfl (by kernel_rfl) (by kernel_rfl) (fun _ _ => by kernel_rfl) ?_
                  refine U.Reg.take (fun _ _ _ _ _ h => h) 5 _ 72 (.int .i64 (c : Int)) rfl (by kernel_rfl) (by kernel_rfl) (by kernel_rfl) rfl (by kernel_rfl) (by kernel_rfl) (fun _ _ => by kernel_rfl) ?_
                  refine U.Reg.take (fun _ _ _ _ _ h => h) 6 _ 73 (.int .i64 (q : Int)) rfl (by kernel_rfl) (by kernel_rfl) (by kernel_rfl) rfl (by kernel_rfl) (by kernel_rfl) (fun _ _ => by kernel_rfl) ?_
                  refine U.Reg.take (fun _ _ _ _ _ h => h) 7 _ 74 (.int .i64 0) rfl (by kernel_rfl) (by kernel_rfl) (by kernel_rfl) rfl (by kernel_rfl) (by kernel_rfl) (fun _ _ => remI8 rfl (by kernel_rfl) (by kernel_rfl) hq0 hrt) ?_
                  refine U.Reg.take (fun _ _ _ _ _ h => h) 8 _ 75 (.bool true) rfl (by kernel_rfl) (by kernel_rfl) (by kernel_rfl) rfl (by kernel_rfl) (by kernel_rfl) (fun _ _ => by kernel_rfl) ?_
                  refine U.Reg.call 1 _ 68 43 _ _ #[.int .i64 6, .agg #[.int .i64 d.k, .int .i64 d.a, .slice d.sp d.sl d.sc, .string d.n, .slice d.kp d.kl d.kc]] rfl (by kernel_rfl) rfl (by kernel_rfl) (by kernel_rfl) rfl (by kernel_rfl) (by kernel_rfl) (h43) ?_
                  rintro e W7 ⟨⟨d7, rfl, ht7⟩, hb7⟩
                  refine ⟨_, Wz.heap.size, rfl, Nat.le_refl _, hb7, ?_⟩
                  have h37 := allM_any (aS 6 i) d7 W7 (ht.later (nx hBd hb7)) ht7 (by rw [aS_len]; omega) (aS_nodeB 6 i) ao cap (List.replicate c 97) ((hRd.later hb7)) (by simp; omega)
                  rw [List.length_replicate] at h37
                  unfold ND.v at h37
                  refine U.Reg.call 3 _ 70 37 _ _ #[.agg #[.int .i64 d7.k, .int .i64 d7.a, .slice d7.sp d7.sl d7.sc, .string d7.n, .slice d7.kp d7.kl d7.kc], .slice ao c cap] rfl (by kernel_rfl) rfl (by kernel_rfl) (by kernel_rfl) rfl (by kernel_rfl) (by kernel_rfl) (h37) ?_
                  rintro e W8 ⟨⟨b8, rfl, hb8t⟩, hb8⟩
                  obtain rfl : b8 = true := HV6.out b8 hb8t
                  have hb8' : Below Wz.heap.size W7 W8 := hb8.mono (show Wz.drew.heap.size ≤ _ from hb7.size)
                  refine ⟨_, Wz.heap.size, rfl, Nat.le_refl _, hb8', ?_⟩
                  refine U.Reg.only 9 _ 76 rfl (by kernel_rfl) rfl (by kernel_rfl) (by kernel_rfl) ⟨.bool true, W8, Wz.heap.size, by kernel_rfl, Nat.le_refl _, Below.refl _ _, ?_⟩
                  refine U.Reg.only 10 _ 77 rfl (by kernel_rfl) rfl (by kernel_rfl) (by kernel_rfl) ⟨.bool true, W8, Wz.heap.size, by kernel_rfl, Nat.le_refl _, Below.refl _ _, ?_⟩
                  have bZ8 : Below Wz.heap.size Wz.drew W8 := Below.trans hb7 hb8'
                  have hd8 := (bZ8.block _ hs).trans hd
                  refine U.Reg.take (fun _ _ _ _ _ h => h) 11 _ 78 (.agg #[.int .i64 d.k, .int .i64 d.a, .slice d.sp d.sl d.sc, .string d.n, .slice d.kp d.kl d.kc]) rfl (by kernel_rfl) (by kernel_rfl) (by kernel_rfl) rfl (by kernel_rfl) (by kernel_rfl) (fun _ hb => Reg.ldN rfl rfl ((hb.block _ hs).trans hd8)) ?_
                  refine U.Reg.take (fun _ _ _ _ _ h => h) 13 _ 80 (.slice ao c cap) rfl (by kernel_rfl) (by kernel_rfl) (by kernel_rfl) rfl (by kernel_rfl) (by kernel_rfl) (fun _ _ => by kernel_rfl) ?_
                  refine U.Reg.take (fun _ _ _ _ _ h => h) 15 _ 82 (.slice ao c cap) rfl (by kernel_rfl) (by kernel_rfl) (by kernel_rfl) rfl (by kernel_rfl) (by kernel_rfl) (fun _ _ => by kernel_rfl) ?_
                  refine U.Reg.take (fun _ _ _ _ _ h => h) 16 _ 83 (.int .i64 (c : Int)) rfl (by kernel_rfl) (by kernel_rfl) (by kernel_rfl) rfl (by kernel_rfl) (by kernel_rfl) (fun _ _ => by kernel_rfl) ?_
                  refine U.Reg.take (fun _ _ _ _ _ h => h) 17 _ 84 (.int .i64 (q : Int)) rfl (by kernel_rfl) (by kernel_rfl) (by kernel_rfl) rfl (by kernel_rfl) (by kernel_rfl) (fun _ _ => by kernel_rfl) ?_
                  refine U.Reg.take (fun _ _ _ _ _ h => h) 18 _ 85 (.int .i64 0) rfl (by kernel_rfl) (by kernel_rfl) (by kernel_rfl) rfl (by kernel_rfl) (by kernel_rfl) (fun _ _ => remI8 rfl (by kernel_rfl) (by kernel_rfl) hq0 hrt) ?_
                  refine U.Reg.take (fun _ _ _ _ _ h => h) 19 _ 86 (.bool true) rfl (by kernel_rfl) (by kernel_rfl) (by kernel_rfl) rfl (by kernel_rfl) (by kernel_rfl) (fun _ _ => by kernel_rfl) ?_
                  have h43' := one_ok (fun _ => True) 7 d (aT i) W8 (TR.later (w := Wz.drew) (fun k hk => bZ8.block k hk) _ hTd) (fun _ _ => trivial)
                  unfold ND.v at h43'
                  refine U.Reg.call 12 _ 79 43 _ _ #[.int .i64 7, .agg #[.int .i64 d.k, .int .i64 d.a, .slice d.sp d.sl d.sc, .string d.n, .slice d.kp d.kl d.kc]] rfl (by kernel_rfl) rfl (by kernel_rfl) (by kernel_rfl) rfl (by kernel_rfl) (by kernel_rfl) (h43') ?_
                  rintro e W9 ⟨⟨d9, rfl, ht9⟩, hb9⟩
                  have hb9' : Below Wz.heap.size W8 W9 := hb9.mono bZ8.size
                  refine ⟨_, Wz.heap.size, rfl, Nat.le_refl _, hb9', ?_⟩
                  have bZ9 := bZ8.trans hb9'
                  have h37' := allM_any (aS 7 i) d9 W9 (ht.later (nx hBd bZ9)) ht9 (by rw [aS_len]; omega) (aS_nodeB 7 i) ao cap (List.replicate c 97) (hRd.later bZ9) (by simp; omega)
                  rw [List.length_replicate] at h37'
                  unfold ND.v at h37'
                  refine U.Reg.call 14 _ 81 37 _ _ #[.agg #[.int .i64 d9.k, .int .i64 d9.a, .slice d9.sp d9.sl d9.sc, .string d9.n, .slice d9.kp d9.kl d9.kc], .slice ao c cap] rfl (by kernel_rfl) rfl (by kernel_rfl) (by kernel_rfl) rfl (by kernel_rfl) (by kernel_rfl) (h37') ?_
                  rintro e Wa ⟨⟨ba, rfl, hbat⟩, hba⟩
                  obtain rfl : ba = false := HV7.out ba hbat
                  have hba' : Below Wz.heap.size W9 Wa := hba.mono bZ9.size
                  refine ⟨_, Wz.heap.size, rfl, Nat.le_refl _, hba', ?_⟩
                  refine U.Reg.only 20 _ 87 rfl (by kernel_rfl) rfl (by kernel_rfl) (by kernel_rfl) ⟨.bool true, Wa, Wz.heap.size, by kernel_rfl, Nat.le_refl _, Below.refl _ _, ?_⟩
                  refine U.Reg.take (fun _ _ _ _ _ h => h) 21 _ 88 (.slice ao c cap) rfl (by kernel_rfl) (by kernel_rfl) (by kernel_rfl) rfl (by kernel_rfl) (by kernel_rfl) (fun _ _ => by kernel_rfl) ?_
                  refine U.Reg.take (fun _ _ _ _ _ h => h) 22 _ 89 (.int .i64 (c : Int)) rfl (by kernel_rfl) (by kernel_rfl) (by kernel_rfl) rfl (by kernel_rfl) (by kernel_rfl) (fun _ _ => by kernel_rfl) ?_
                  refine U.Reg.take (fun _ _ _ _ _ h => h) 23 _ 90 (.bool false) rfl (by kernel_rfl) (by kernel_rfl) (by kernel_rfl) rfl (by kernel_rfl) (by kernel_rfl) (fun _ _ => U.Reg.gtr (k := .i64) (m := (c : Int)) (n := 0) rfl (by kernel_rfl) (by kernel_rfl) hc0) ?_
                  refine U.Reg.only 24 _ 91 rfl (by kernel_rfl) rfl (by kernel_rfl) (by kernel_rfl) ⟨.bool false, Wa, Wz.heap.size, by kernel_rfl, Nat.le_refl _, Below.refl _ _, ?_⟩
                  refine U.Reg.only 25 _ 92 rfl (by kernel_rfl) rfl (by kernel_rfl) (by kernel_rfl) ⟨.bool true, Wa, Wz.heap.size, by kernel_rfl, Nat.le_refl _, Below.refl _ _, ?_⟩
                  refine U.Reg.only 26 _ 93 rfl (by kernel_rfl) rfl (by kernel_rfl) (by kernel_rfl) ⟨.bool true, Wa, Wz.heap.size, by kernel_rfl, Nat.le_refl _, Below.refl _ _, ?_⟩
                  refine U.Reg.only 27 _ 4 rfl (by kernel_rfl) rfl (by kernel_rfl) (by kernel_rfl) ⟨.bool true, Wa, Wz.heap.size, by kernel_rfl, Nat.le_refl _, Below.refl _ _, ?_⟩
                  refine U.Reg.done (by kernel_rfl) ?_
                  simp only [U.Reg.ov, Act.put, List.setIfInBounds_toArray, List.set_cons_succ, List.set_cons_zero]
                  go_wp2
                  go_ret
                  exact ⟨rfl, nx hBd (bZ9.trans hba')⟩
              · have HV6 : Hid (∀ b : Bool, (b = true ↔ AllP (aS 6 i) (List.replicate c 97)) → b = false) := hide (fun b hb => by
                  cases b with
                  | false => rfl
                  | true => exact absurd (A6.1 (hb.1 rfl)) hr0)
                have HV7 : Hid (∀ b : Bool, (b = true ↔ AllP (aS 7 i) (List.replicate c 97)) → b = false) := hide (fun b hb => by
                  cases b with
                  | false => rfl
                  | true => exact absurd (A7.1 (hb.1 rfl)).1 hr0)
                refine U.Reg.start (B := Wz.heap.size) (by kernel_rfl) ?_
                refine U.Reg.take (fun _ _ _ _ _ h => h) 0 _ 67 (.agg #[.int .i64 d.k, .int .i64 d.a, .slice d.sp d.sl d.sc, .string d.n, .slice d.kp d.kl d.kc]) rfl (by kernel_rfl) (by kernel_rfl) (by kernel_rfl) rfl (by kernel_rfl) (by kernel_rfl) (fun _ hb => Reg.ldN rfl rfl ((hb.block _ hs).trans hd)) ?_
                refine U.Reg.take (fun _ _ _ _ _ h => h) 2 _ 69 (.slice ao c cap) rfl (by kernel_rfl) (by kernel_rfl) (by kernel_rfl) rfl (by kernel_rfl) (by kernel_rfl) (fun _ _ => by kernel_rfl) ?_
                refine U.Reg.take (fun _ _ _ _ _ h => h) 4 _ 71 (.slice ao c cap) rfl (by kernel_rfl) (by kernel_rfl) (by kernel_rfl) rfl (by kernel_rfl) (by kernel_rfl) (fun _ _ => by kernel_rfl) ?_
                refine U.Reg.take (fun _ _ _ _ _ h => h) 5 _ 72 (.int .i64 (c : Int)) rfl (by kernel_rfl) (by kernel_rfl) (by kernel_rfl) rfl (by kernel_rfl) (by kernel_rfl) (fun _ _ => by kernel_rfl) ?_
                refine U.Reg.take (fun _ _ _ _ _ h => h) 6 _ 73 (.int .i64 (q : Int)) rfl (by kernel_rfl) (by kernel_rfl) (by kernel_rfl) rfl (by kernel_rfl) (by kernel_rfl) (fun _ _ => by kernel_rfl) ?_
                refine U.Reg.take (fun _ _ _ _ _ h => h) 7 _ 74 (.int .i64 (r : Int)) rfl (by kernel_rfl) (by kernel_rfl) (by kernel_rfl) rfl (by kernel_rfl) (by kernel_rfl) (fun _ _ => remI8 rfl (by kernel_rfl) (by kernel_rfl) hq0 hrt) ?_
                refine U.Reg.take (fun _ _ _ _ _ h => h) 8 _ 75 (.bool false) rfl (by kernel_rfl) (by kernel_rfl) (by kernel_rfl) rfl (by kernel_rfl) (by kernel_rfl) (fun _ _ => eqI8 (m := (r : Int)) (n := 0) rfl (by kernel_rfl) (by kernel_rfl) (by simpa using hr0)) ?_
                refine U.Reg.call 1 _ 68 43 _ _ #[.int .i64 6, .agg #[.int .i64 d.k, .int .i64 d.a, .slice d.sp d.sl d.sc, .string d.n, .slice d.kp d.kl d.kc]] rfl (by kernel_rfl) rfl (by kernel_rfl) (by kernel_rfl) rfl (by kernel_rfl) (by kernel_rfl) (h43) ?_
                rintro e W7 ⟨⟨d7, rfl, ht7⟩, hb7⟩
                refine ⟨_, Wz.heap.size, rfl, Nat.le_refl _, hb7, ?_⟩
                have h37 := allM_any (aS 6 i) d7 W7 (ht.later (nx hBd hb7)) ht7 (by rw [aS_len]; omega) (aS_nodeB 6 i) ao cap (List.replicate c 97) ((hRd.later hb7)) (by simp; omega)
                rw [List.length_replicate] at h37
                unfold ND.v at h37
                refine U.Reg.call 3 _ 70 37 _ _ #[.agg #[.int .i64 d7.k, .int .i64 d7.a, .slice d7.sp d7.sl d7.sc, .string d7.n, .slice d7.kp d7.kl d7.kc], .slice ao c cap] rfl (by kernel_rfl) rfl (by kernel_rfl) (by kernel_rfl) rfl (by kernel_rfl) (by kernel_rfl) (h37) ?_
                rintro e W8 ⟨⟨b8, rfl, hb8t⟩, hb8⟩
                obtain rfl : b8 = false := HV6.out b8 hb8t
                have hb8' : Below Wz.heap.size W7 W8 := hb8.mono (show Wz.drew.heap.size ≤ _ from hb7.size)
                refine ⟨_, Wz.heap.size, rfl, Nat.le_refl _, hb8', ?_⟩
                refine U.Reg.only 9 _ 76 rfl (by kernel_rfl) rfl (by kernel_rfl) (by kernel_rfl) ⟨.bool true, W8, Wz.heap.size, by kernel_rfl, Nat.le_refl _, Below.refl _ _, ?_⟩
                refine U.Reg.only 10 _ 77 rfl (by kernel_rfl) rfl (by kernel_rfl) (by kernel_rfl) ⟨.bool true, W8, Wz.heap.size, by kernel_rfl, Nat.le_refl _, Below.refl _ _, ?_⟩
                have bZ8 : Below Wz.heap.size Wz.drew W8 := Below.trans hb7 hb8'
                have hd8 := (bZ8.block _ hs).trans hd
                refine U.Reg.take (fun _ _ _ _ _ h => h) 11 _ 78 (.agg #[.int .i64 d.k, .int .i64 d.a, .slice d.sp d.sl d.sc, .string d.n, .slice d.kp d.kl d.kc]) rfl (by kernel_rfl) (by kernel_rfl) (by kernel_rfl) rfl (by kernel_rfl) (by kernel_rfl) (fun _ hb => Reg.ldN rfl rfl ((hb.block _ hs).trans hd8)) ?_
                refine U.Reg.take (fun _ _ _ _ _ h => h) 13 _ 80 (.slice ao c cap) rfl (by kernel_rfl) (by kernel_rfl) (by kernel_rfl) rfl (by kernel_rfl) (by kernel_rfl) (fun _ _ => by kernel_rfl) ?_
                refine U.Reg.take (fun _ _ _ _ _ h => h) 15 _ 82 (.slice ao c cap) rfl (by kernel_rfl) (by kernel_rfl) (by kernel_rfl) rfl (by kernel_rfl) (by kernel_rfl) (fun _ _ => by kernel_rfl) ?_
                refine U.Reg.take (fun _ _ _ _ _ h => h) 16 _ 83 (.int .i64 (c : Int)) rfl (by kernel_rfl) (by kernel_rfl) (by kernel_rfl) rfl (by kernel_rfl) (by kernel_rfl) (fun _ _ => by kernel_rfl) ?_
                refine U.Reg.take (fun _ _ _ _ _ h => h) 17 _ 84 (.int .i64 (q : Int)) rfl (by kernel_rfl) (by kernel_rfl) (by kernel_rfl) rfl (by kernel_rfl) (by kernel_rfl) (fun _ _ => by kernel_rfl) ?_
                refine U.Reg.take (fun _ _ _ _ _ h => h) 18 _ 85 (.int .i64 (r : Int)) rfl (by kernel_rfl) (by kernel_rfl) (by kernel_rfl) rfl (by kernel_rfl) (by kernel_rfl) (fun _ _ => remI8 rfl (by kernel_rfl) (by kernel_rfl) hq0 hrt) ?_
                refine U.Reg.take (fun _ _ _ _ _ h => h) 19 _ 86 (.bool false) rfl (by kernel_rfl) (by kernel_rfl) (by kernel_rfl) rfl (by kernel_rfl) (by kernel_rfl) (fun _ _ => eqI8 (m := (r : Int)) (n := 0) rfl (by kernel_rfl) (by kernel_rfl) (by simpa using hr0)) ?_
                have h43' := one_ok (fun _ => True) 7 d (aT i) W8 (TR.later (w := Wz.drew) (fun k hk => bZ8.block k hk) _ hTd) (fun _ _ => trivial)
                unfold ND.v at h43'
                refine U.Reg.call 12 _ 79 43 _ _ #[.int .i64 7, .agg #[.int .i64 d.k, .int .i64 d.a, .slice d.sp d.sl d.sc, .string d.n, .slice d.kp d.kl d.kc]] rfl (by kernel_rfl) rfl (by kernel_rfl) (by kernel_rfl) rfl (by kernel_rfl) (by kernel_rfl) (h43') ?_
                rintro e W9 ⟨⟨d9, rfl, ht9⟩, hb9⟩
                have hb9' : Below Wz.heap.size W8 W9 := hb9.mono bZ8.size
                refine ⟨_, Wz.heap.size, rfl, Nat.le_refl _, hb9', ?_⟩
                have bZ9 := bZ8.trans hb9'
                have h37' := allM_any (aS 7 i) d9 W9 (ht.later (nx hBd bZ9)) ht9 (by rw [aS_len]; omega) (aS_nodeB 7 i) ao cap (List.replicate c 97) (hRd.later bZ9) (by simp; omega)
                rw [List.length_replicate] at h37'
                unfold ND.v at h37'
                refine U.Reg.call 14 _ 81 37 _ _ #[.agg #[.int .i64 d9.k, .int .i64 d9.a, .slice d9.sp d9.sl d9.sc, .string d9.n, .slice d9.kp d9.kl d9.kc], .slice ao c cap] rfl (by kernel_rfl) rfl (by kernel_rfl) (by kernel_rfl) rfl (by kernel_rfl) (by kernel_rfl) (h37') ?_
                rintro e Wa ⟨⟨ba, rfl, hbat⟩, hba⟩
                obtain rfl : ba = false := HV7.out ba hbat
                have hba' : Below Wz.heap.size W9 Wa := hba.mono bZ9.size
                refine ⟨_, Wz.heap.size, rfl, Nat.le_refl _, hba', ?_⟩
                refine U.Reg.only 20 _ 87 rfl (by kernel_rfl) rfl (by kernel_rfl) (by kernel_rfl) ⟨.bool false, Wa, Wz.heap.size, by kernel_rfl, Nat.le_refl _, Below.refl _ _, ?_⟩
                refine U.Reg.skip (fun _ _ _ _ _ h => h) 21 _ 88 rfl (by kernel_rfl) (by kernel_rfl) (by kernel_rfl) rfl (by kernel_rfl) (by kernel_rfl) ?_
                refine U.Reg.skip (fun _ _ _ _ _ h => h) 22 _ 89 rfl (by kernel_rfl) (by kernel_rfl) (by kernel_rfl) rfl (by kernel_rfl) (by kernel_rfl) ?_
                refine U.Reg.skip (fun _ _ _ _ _ h => h) 23 _ 90 rfl (by kernel_rfl) (by kernel_rfl) (by kernel_rfl) rfl (by kernel_rfl) (by kernel_rfl) ?_
                refine U.Reg.only 24 _ 91 rfl (by kernel_rfl) rfl (by kernel_rfl) (by kernel_rfl) ⟨.bool false, Wa, Wz.heap.size, by kernel_rfl, Nat.le_refl _, Below.refl _ _, ?_⟩
                refine U.Reg.only 25 _ 92 rfl (by kernel_rfl) rfl (by kernel_rfl) (by kernel_rfl) ⟨.bool true, Wa, Wz.heap.size, by kernel_rfl, Nat.le_refl _, Below.refl _ _, ?_⟩
                refine U.Reg.only 26 _ 93 rfl (by kernel_rfl) rfl (by kernel_rfl) (by kernel_rfl) ⟨.bool true, Wa, Wz.heap.size, by kernel_rfl, Nat.le_refl _, Below.refl _ _, ?_⟩
                refine U.Reg.only 27 _ 4 rfl (by kernel_rfl) rfl (by kernel_rfl) (by kernel_rfl) ⟨.bool true, Wa, Wz.heap.size, by kernel_rfl, Nat.le_refl _, Below.refl _ _, ?_⟩
                refine U.Reg.done (by kernel_rfl) ?_
                simp only [U.Reg.ov, Act.put, List.setIfInBounds_toArray, List.set_cons_succ, List.set_cons_zero]
                go_wp2
                go_ret
                exact ⟨rfl, nx hBd (bZ9.trans hba')⟩
end Go.Proofs.YteaaijhppmkfeaaGreatDoor
