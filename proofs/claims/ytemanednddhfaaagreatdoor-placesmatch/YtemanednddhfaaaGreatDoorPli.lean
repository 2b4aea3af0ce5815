/- The iterator over a mask's places; a range over it. -/
import Derived.Test.YtemanednddhfaaaGreatDoorPlb
import Derived.Test.YtemanednddhfaaaGreatDoorPre
namespace Go.Proofs.YtemanednddhfaaaGreatDoor
open Go.RowKit Go.Shelf
attribute [local go_sem] Oper.semAt_some
theorem bits_andNot_top (m : Nat) (hm : m < 2 ^ 64) : bits .andNot .u64 (m : Int) 9223372036854775808 = ((m % 2 ^ 63 : Nat) : Int) := by
  have h1 : (BitVec.ofInt 64 (m : Int)).toNat = m := by
    rw [BitVec.ofInt_natCast, BitVec.toNat_ofNat]; exact Nat.mod_eq_of_lt hm
  have h2 : (BitVec.ofInt 64 (9223372036854775808 : Int)).toNat = 9223372036854775808 := by decide
  show IntKind.u64.wrap ((BitVec.ofInt 64 (m : Int) &&& ~~~ BitVec.ofInt 64 (9223372036854775808 : Int)).toNat : Int) = _
  rw [BitVec.toNat_and, BitVec.toNat_not, h1, h2, show (2 ^ 64 - 1 - 9223372036854775808 : Nat) = 2 ^ 63 - 1 from rfl, Nat.and_two_pow_sub_one_eq_mod, IntKind.wrap_u64]
  omega
/-- The places of a mask; the beginning is none. -/
def plc (m : Nat) : List Nat := PA.bits (m % 2 ^ 63)
theorem mem_plc {m i : Nat} : i ∈ plc m ↔ i < 63 ∧ m.testBit i = true := by
  unfold plc
  rw [PA.mem_bits, Nat.testBit_mod_two_pow]
  simp only [Bool.and_eq_true, decide_eq_true_eq]
  exact ⟨fun h => h.2, fun h => ⟨by omega, h⟩⟩
theorem plc_len (m : Nat) : (plc m).length ≤ 64 := PA.bits_len _
set_option maxRecDepth 100000 in
set_option maxHeartbeats 1000000 in
theorem places_make (m : Nat) (w : World) : Calls Tryz.prog 52 #[.int .u64 (m : Int)] w fun x w' => x = .returned (.func (.func 87) #[] #[.pointer (some ⟨w.heap.size, 0, none⟩)]) ∧ w' = w.alloc (.cells #[.int .u64 (m : Int)] 83) := by
  go_enter Tryz.func52, Tryz.ntmps52
  go_wp2
  go_ret
  exact ⟨rfl, rfl⟩
set_option maxRecDepth 100000 in
set_option maxHeartbeats 2000000 in
theorem places1_in (n : Nat) (hn : 1 ≤ n) (m : Nat) (hm : m < 2 ^ 64) (l bs : Nat) (J : Nat → World → Prop) (W0 : World) (hbx : W0.heap[bs]? = some (.cells #[.int .u64 (m : Int)] 83))
    (hD : ∀ i W, J i W → Deb W)
    (hY : ∀ i (hi : i < (plc m).length) W, J i W → YieldAt Fence.wide (n - 1) Tryz.prog l #[.int .i64 (((plc m)[i] : Nat) : Int)] W fun e W' => e = .returned (.bool true) ∧ J (i + 1) W')
    (h0 : J 0 W0) :
    CallsIn Fence.wide n Tryz.prog 87 #[.func (.yield l) #[] #[], .pointer (some ⟨bs, 0, none⟩)] W0 fun e W' => (∃ v, e = .returned v) ∧ J (plc m).length W' := by
  have cb : W0.cell? ⟨bs, 0, none⟩ = some (.int .u64 (m : Int)) := by simp [World.cell?, hbx]
  have e0 := bits_andNot_top m hm
  have hq : m % 2 ^ 63 < 2 ^ 64 := by omega
  have HP : Hid (plc m = PA.bits (m % 2 ^ 63)) := rfl
  generalize plc m = L at *
  generalize m % 2 ^ 63 = q at *
  refine callsIn_of_wp Tryz.func87 rfl trivial ?_ rfl
  simp only [Tryz.ntmps87, List.size_toArray, List.length_cons, List.length_nil, Nat.reduceAdd, Nat.reduceSub, Array.replicate_succ, Array.replicate_zero, List.push_toArray, List.append_toArray, List.nil_append, List.cons_append]
  gi_wp2
  gi_loopg [3] (L.length + 1) (fun k v wr => ∃ i y : Nat, v = .int .u64 (y : Int) ∧ y < 2 ^ 64 ∧ Hid (L.drop i = PA.bits y) ∧ i ≤ L.length ∧ J i wr ∧ Hid (k = L.length - i + 1))
  case atStart => exact ⟨0, q, rfl, hq, hide (by rw [List.drop_zero]; exact HP.out), Nat.zero_le _, h0, hide (by omega)⟩
  case round =>
    obtain ⟨i, y, rfl, hy64, HL, hi, hJ, HK⟩ := hrel
    by_cases hy : y = 0
    · subst hy
      have HIL : Hid (i = L.length) := hide (by
        have h := HL.out
        rw [PA.bits_zero, List.drop_eq_nil_iff] at h
        omega)
      clear hY cb hbx h0 hD HL HP e0 hq
      gi_wp2
      go_end0
      exact ⟨⟨_, rfl⟩, by rw [← HIL.out]; exact hJ⟩
    · have hc := PA.bits_cons hy hy64
      have hlt : i < L.length := by
        refine Nat.lt_of_not_le fun h => ?_
        have h2 := HL.out
        rw [List.drop_eq_nil_of_le h, hc] at h2
        cases h2
      have hd := HL.out
      rw [List.drop_eq_getElem_cons hlt, hc, List.cons.injEq] at hd
      have HL2 : Hid (L.drop (i + 1) = PA.bits (y &&& (y - 1))) := hide hd.2
      have htz := tz_any y hy64 hy wr (hD i wr hJ)
      obtain ⟨fn, tmps, assign, body, hyl, hR⟩ := hY i hlt wr hJ
      rw [hd.1] at hyl
      have e1 : IntKind.u64.wrap ((y : Int) - 1) = ((y - 1 : Nat) : Int) := by rw [IntKind.wrap_u64]; omega
      have e2 := bits_and_u64_nat y (y - 1) hy64 (by omega)
      have e3 := PA.rest_lt hy64
      have hy0 : ((y : Int) != 0) = true := by simp [hy]
      generalize Lib.ctz 64 y = z at *
      generalize y &&& (y - 1) = x at *
      clear hY cb hbx h0 hD HL HP e0 hq hd hc
      gi_wp2_with (refine ⟨trivial, ?_⟩; gi_at_call 88; refine (callsIn_wide.2 htz).mono ?_; rintro e w2 ⟨rfl, rfl⟩)
      refine hR.mono ?_
      rintro e W1 ⟨rfl, hJ1⟩
      clear hyl hR
      gi_wp2
      gi_roundg (gk - 1)
      case measure => have := HK.out; omega
      case rel => exact ⟨i + 1, x, by first | rfl | (rw [e1, e2]), e3, HL2, by omega, hJ1, hide (by have := HK.out; omega)⟩
theorem below_putL {n l : Nat} (W : World) (o : Obj) (h : n ≤ l) : Below n W (W.putObj l o) := ⟨rfl, rfl, rfl, by rw [World.putObj_size]; exact Nat.le_refl _, fun k hk => World.putObj_heap_other (by omega)⟩
/-- A body that goes through to its end. -/
def NormEnd (K : World → Prop) : Exit → Act → World → Prop
  | .normal, _, W => K W
  | _, _, _ => False
/-- A range over a mask's places whose body goes through to its end. -/
theorem places_range {g : Operand} {ps : Array Tmp} {assign body : Code} {Q : Exit → Act → World → Prop} {a : Act} {w : World} {m bs : Nat} (J : Nat → World → Prop)
    (hg : a.eval g = .func (.func 87) #[] #[.pointer (some ⟨bs, 0, none⟩)]) (hps : ps.size = 1) (hbs : w.heap[bs]? = some (.cells #[.int .u64 (m : Int)] 83)) (hm : m < 2 ^ 64)
    (hst : ∀ i A A', J i A → Below w.heap.size A A' → J i A') (hD : ∀ i A, J i A → Deb A) (h0 : J 0 w)
    (hround : ∀ i (hi : i < (plc m).length) A, J i A → w.heap.size + 2 ≤ A.heap.size → assign.wpIn (Fence.wide.inRound (w.heap.size + 1)) 7 Tryz.prog (Exit.then (fun a' Wa => Wa = A ∧
      ∀ A1, J i A1 → w.heap.size + 2 ≤ A1.heap.size → body.wpIn (Fence.wide.inRound (w.heap.size + 1)) 7 Tryz.prog (NormEnd fun W => J (i + 1) W ∧ (∀ k, w.heap.size ≤ k → k < A1.heap.size → W.heap[k]? = A1.heap[k]?) ∧ A1.heap.size ≤ W.heap.size) a' A1) (fun _ _ _ => False))
        { tmps := (ps.zip #[.int .i64 (((plc m)[i] : Nat) : Int)]).foldl (fun t (p, v) => t.setIfInBounds p v) a.tmps, defers := [] } A)
    (hend : ∀ W, J (plc m).length W → W.heap[w.heap.size]? = some (.deferred (some [])) → w.heap.size + 2 ≤ W.heap.size → Q .normal { a with defers := { target := .collected w.heap.size, args := #[] } :: a.defers } W) :
    (Code.rangeFunc g ps assign body).wpIn Fence.wide 9 Tryz.prog Q a w := by
  refine enter3 hg (enters_of Tryz.func87 (by kernel_rfl) rfl) ?_
  intro r We hr hrec hdef hszE hbE
  refine (places1_in 8 (by omega) m hm (w.heap.size + 1) bs (fun i A => J i A ∧ A.heap[w.heap.size + 1]? = some (.loop r) ∧ A.heap[w.heap.size]? = some (.deferred (some [])) ∧ w.heap.size + 2 ≤ A.heap.size) We ((hbE.block _ (Array.getElem?_eq_some_iff.1 hbs).1).trans hbs) (fun i W h => hD i W h.1) ?round ⟨hst 0 w We h0 hbE, hrec.out, hdef.out, by omega⟩).mono ?_
  case round =>
    rintro i hi A ⟨j1, j2, j3, j4⟩
    refine yield3 hr j2 (by rw [hps]; rfl) ?_
    refine wpIn_mono (hround i hi A j1 j4) ?_
    rintro e a' Wa he
    cases e with
    | normal =>
      obtain ⟨rfl, h2⟩ := he
      refine ⟨j2, fun rb => ?_⟩
      have hz : (Wa.putObj (w.heap.size + 1) (.loop rb)).heap.size = Wa.heap.size := World.putObj_size
      refine wpIn_mono (h2 _ (hst i _ _ j1 (below_putL Wa (.loop rb) (by omega))) (by omega)) ?_
      rintro e a3 W3 he
      cases e with
      | normal => ?_
      | ret => exact he.elim
      | exit id => exact he.elim
      | goto t => exact he.elim
      | panic ch => exact he.elim
      | outgrown => exact he.elim
      obtain ⟨h3, h4, h5⟩ := he
      have k1 : W3.heap[w.heap.size + 1]? = some (.loop rb) := (h4 _ (by omega) (by omega)).trans (World.putObj_heap_same (by omega))
      have k2 : W3.heap[w.heap.size]? = some (.deferred (some [])) := ((h4 _ (Nat.le_refl _) (by omega)).trans (World.putObj_heap_other (by omega))).trans j3
      refine ⟨k1, rfl, hst _ _ _ h3 (below_putL W3 (.loop r) (by omega)), World.putObj_heap_same (by omega), (World.putObj_heap_other (by omega)).trans k2, ?_⟩
      rw [World.putObj_size]
      omega
    | ret => exact he.elim
    | exit id => exact he.elim
    | goto t => exact he.elim
    | panic ch => exact he.elim
    | outgrown => exact he.elim
  rintro e W' ⟨hv, j1, j2, j3, j4⟩
  refine ⟨hv, .inl ⟨j2, fun r' => ?_⟩⟩
  exact hend _ (hst _ _ _ j1 (below_putL W' (.loop r') (by omega))) ((World.putObj_heap_other (by omega)).trans j3) (by rw [World.putObj_size]; exact j4)
end Go.Proofs.YtemanednddhfaaaGreatDoor
