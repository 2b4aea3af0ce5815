/- The walk of SetPoint: it answers true whatever the bytes; nothing that was there has turned. -/
import Derived.Test.YtenheagfijocjaaPoint
import Derived.Test.YtenheagfijocjaaRegb
namespace Go.Proofs.Ytenheagfijocjaa
open Go.RowKit Go.Shelf

/-- The slice reads as these bytes. -/
def RdB (w : World) (ao : Option Addr) (bs : List UInt8) : Prop := ∀ i (h : i < bs.length), ∃ b off, ao = some ⟨b, off, none⟩ ∧ w.cell? ⟨b, off + i, none⟩ = some (.int .u8 (bs[i].toNat : Int))
theorem RdB.later {w wx : World} {ao : Option Addr} {bs : List UInt8} (h : RdB w ao bs) (hb : Below w.heap.size w wx) : RdB wx ao bs := fun i hi =>
  let ⟨b, off, e, h1⟩ := h i hi
  ⟨b, off, e, cell_later hb h1⟩
/-- The array of marks. -/
structure Marks (W : World) (B : Nat) (f : Nat → Bool) : Prop where
  cell : ∀ i, i < 258 → W.cell? ⟨B, i, none⟩ = some (.bool (f i))
  free : ∀ i, i < 258 → W.frozen? ⟨B, i, none⟩ = false

theorem marks_new (w : World) : Marks (w.alloc (.cells Try.zeroCells42 42)) w.heap.size (pIn ([] : List UInt8)) := by
  rw [show Try.zeroCells42 = (List.replicate 258 (Value.bool false)).toArray by kernel_rfl]
  have h := World.alloc_heap_new w (.cells (List.replicate 258 (Value.bool false)).toArray 42)
  constructor
  · intro i hi
    unfold World.cell?
    simp only [h]
    rw [List.getElem?_toArray, List.getElem?_replicate, if_pos hi]
    rfl
  · intro i hi
    unfold World.frozen?
    simp only [h]
    simp
theorem pR_snoc {bs : List UInt8} {k : Nat} (h : k < bs.length) : pR (bs.take (k + 1)) = pR (bs.take k) ++ [((bs[k].toNat : Int), (bs[k].toNat : Int))] := by
  unfold pR
  rw [← List.take_append_getElem h, List.map_append, List.map_cons, List.map_nil]
theorem Marks.later {W W' : World} {B : Nat} {f : Nat → Bool} (h : Marks W B f) (hb : Below (B + 1) W W') : Marks W' B f :=
  ⟨fun i hi => (hb.cell (p := ⟨B, i, none⟩) (by simp)).trans (h.cell i hi), fun i hi => (hb.frozen (p := ⟨B, i, none⟩) (by simp)).trans (h.free i hi)⟩
theorem Marks.set {W : World} {B : Nat} {bs : List UInt8} {k : Nat} (hk : k < bs.length) (h : Marks W B (pIn (bs.take k))) : Marks (W.setCell ⟨B, bs[k].toNat, none⟩ (.bool true)) B (pIn (bs.take (k + 1))) := by
  have hp : ∀ i, pIn (bs.take (k + 1)) i = (pIn (bs.take k) i || decide (bs[k].toNat = i)) := fun i => by
    unfold pIn
    rw [← List.take_append_getElem hk, List.any_append, List.any_cons, List.any_nil, Bool.or_false]
  have h256 := bs[k].toNat_lt
  constructor
  · intro i hi
    rw [hp]
    by_cases e : bs[k].toNat = i
    · subst e
      rw [World.cell?_setCell_same _ _ _ (h.cell _ hi)]
      simp
    · rw [World.cell?_setCell_other _ _ _ _ (fun e' => e (by cases e'; rfl)), h.cell i hi]
      simp [e]
  · intro i hi
    rw [World.frozen?_setCell]
    exact h.free i hi
theorem OwnR.setBelow {w : World} {B n : Nat} {e : TypeId} {v : Value} {xs : List S.R} (h : OwnR w (B + 1) e v xs) (u : Value) : OwnR (w.setCell ⟨B, n, none⟩ u) (B + 1) e v xs :=
  ownsRow_setCell_below h (by simp) u
theorem elemSize41 (w : World) : (sizeOf (Try.prog.elem 41)).run Try.prog w = .ok 1 w := by kernel_rfl
theorem cvt8 (w : World) (c : Nat) (h : c < 256) : (convert 5 21 (.int .u8 (c : Int))).run Try.prog w = .ok (.int .i32 (c : Int)) w := by
  have := run_convert_int (P := Try.prog) w 5 21 .u8 (c : Int) (by kernel_rfl) (by kernel_rfl)
  rw [this, show Try.prog.intKind 21 = .i32 by kernel_rfl, show IntKind.i32.wrap (c : Int) = (c : Int) by simp [IntKind.wrap, IntKind.bits, IntKind.signed]; omega]

theorem elemSize42 (w : World) : (sizeOf (Try.prog.elem 42)).run Try.prog w = .ok 1 w := by kernel_rfl
theorem cvt64 (w : World) (c : Nat) (h : c < 256) : (convert 3 21 (.int .i64 (c : Int))).run Try.prog w = .ok (.int .i32 (c : Int)) w := by
  have := run_convert_int (P := Try.prog) w 3 21 .i64 (c : Int) (by kernel_rfl) (by kernel_rfl)
  rw [this, show Try.prog.intKind 21 = .i32 by kernel_rfl, show IntKind.i32.wrap (c : Int) = (c : Int) by simp [IntKind.wrap, IntKind.bits, IntKind.signed]; omega]
theorem pt_norm (bs : List UInt8) (hk : bs.length ≤ 150) (a : Option Addr) (c : Nat) (w : World) (h : RdR w a (pR bs)) :
    Calls Try.prog 10 #[.slice a bs.length c] w fun e W' => ∃ a' c', e = .returned (.tuple #[.slice a' (pRun bs 256) c', .int .i64 0]) ∧ RdR W' a' (S.set (pR bs)) ∧ Below w.heap.size w W' := by
  have hN := norm_any a c (pR bs) (by rw [pR_length]; omega) w h
  have hall : (pR bs).all S.good = true := List.all_eq_true.2 (pR_good bs)
  have hle : (S.set (pR bs)).length ≤ 200 := by have := S.set_length (pR bs); rw [pR_length] at this; omega
  unfold normL normE at hN
  rw [if_pos ⟨hall, hle⟩, if_pos ⟨hall, hle⟩, pR_length, pSet_len] at hN
  refine hN.mono ?_
  rintro e W' ⟨a', c', he, hr, _, hb⟩
  exact ⟨a', c', he, hr, hb⟩
theorem pt_has (bs : List UInt8) (i : Nat) (a : Option Addr) (c : Nat) (w : World) (h : RdR w a (S.set (pR bs))) :
    Calls Try.prog 25 #[.slice a (pRun bs 256) c, .int .i32 (i : Int)] w fun e W' => e = .returned (.bool (pIn bs i)) ∧ Below w.heap.size w W' := by
  have hN := has_any a c (S.set (pR bs)) (i : Int) (by rw [pSet_len]; have := pRun_le bs 256; omega) w h
  rw [pSet_len, pSet_hB] at hN
  exact hN
theorem pt_has256 (bs : List UInt8) (a : Option Addr) (c : Nat) (w : World) (h : RdR w a (S.set (pR bs))) :
    Calls Try.prog 25 #[.slice a (pRun bs 256) c, .int .i32 256] w fun e W' => e = .returned (.bool false) ∧ Below w.heap.size w W' := by
  have hN := pt_has bs 256 a c w h
  rw [show pIn bs 256 = false by
    cases hh : pIn bs 256 with
    | false => rfl
    | true => exact absurd (pIn_lt hh) (by omega)] at hN
  exact hN
theorem pt_neg (bs : List UInt8) (a : Option Addr) (c : Nat) (w : World) (h : RdR w a (S.set (pR bs))) :
    Calls Try.prog 25 #[.slice a (pRun bs 256) c, .int .i32 (-1)] w fun e W' => e = .returned (.bool false) ∧ Below w.heap.size w W' := by
  have hN := has_any a c (S.set (pR bs)) (-1) (by rw [pSet_len]; have := pRun_le bs 256; omega) w h
  rw [pSet_len, show S.hB (S.set (pR bs)) (-1) = false by
    cases hh : S.hB (S.set (pR bs)) (-1) with
    | false => rfl
    | true =>
      rw [S.hB_iff, (S.set_canon _).hs, S.set_has, pR_hs] at hh
      obtain ⟨i, e, _⟩ := hh
      omega] at hN
  exact hN
theorem pt_count (bs : List UInt8) (a : Option Addr) (c : Nat) (w : World) (h : RdR w a (S.set (pR bs))) :
    Calls Try.prog 27 #[.slice a (pRun bs 256) c] w fun e W' => e = .returned (.int .i64 (pN bs 256 : Nat)) ∧ Below w.heap.size w W' := by
  have hN := count_any a c (S.set (pR bs)) (by rw [pSet_len]; have := pRun_le bs 256; omega) w h
  rw [pSet_len, S.set_self (S.set_canon _), pSet_count] at hN
  exact hN
theorem pt_is (bs : List UInt8) (a : Option Addr) (c : Nat) (w : World) (h : RdR w a (S.set (pR bs))) :
    Calls Try.prog 15 #[.slice a (pRun bs 256) c] w fun e W' => e = .returned (.bool true) ∧ Below w.heap.size w W' := by
  have hN := is_any a c (S.set (pR bs)) (fun r hr => by
    have hg := (S.good_iff r).1 ((S.set_canon _).good r hr)
    omega) (by rw [pSet_len]; have := pRun_le bs 256; omega) w h
  rw [pSet_len] at hN
  refine hN.mono ?_
  rintro e W' ⟨⟨b, rfl, hb⟩, hB⟩
  rw [hb.2 (S.set_canon _)]
  exact ⟨rfl, hB⟩

set_option maxRecDepth 100000 in
set_option maxHeartbeats 4000000 in
theorem point_any (ao : Option Addr) (ca : Nat) (bs : List UInt8) (hm : bs.length ≤ 9223372036854775807) (w : World) (h : RdB w ao bs) :
    Calls Try.prog 6 #[.slice ao bs.length ca] w fun e w' => e = .returned (.bool true) ∧ Below w.heap.size w w' := by
  by_cases hbig : 150 < bs.length
  · go_enter Try.func6, Try.ntmps6
    go_wp2_with fail
    refine (known_any w).mono ?_
    rintro e w1 ⟨rfl, hb1⟩
    go_wp2
    go_ret
    exact ⟨rfl, hb1⟩
  clear hm
  go_enter Try.func6, Try.ntmps6
  go_wp2_with fail
  refine (known_any w).mono ?_
  rintro e w1 ⟨rfl, hb1⟩
  go_wp2
  have hk1 : bs.length ≤ 150 := by omega
  go_loopw [3, 5] (fun v p wr => ∃ k : Nat, p = .int .i64 (k : Int) ∧ k ≤ bs.length ∧ OwnR wr (w1.heap.size + 1) 34 v (pR (bs.take k)) ∧ Marks wr w1.heap.size (pIn (bs.take k)) ∧ Below w1.heap.size w1 wr) (fun _ p _ => bs.length - (intOf p).toNat)
  case atStart => exact ⟨0, rfl, Nat.zero_le _, ownR_nil _ _ _, marks_new _, al1 _ _⟩
  case round =>
    obtain ⟨k, rfl, hk, ho, hM, hB⟩ := hrel
    have hsz := hB.size
    by_cases hlt : k < bs.length
    · obtain ⟨b, off, rfl, hc⟩ := h.later hb1 k hlt
      have hbl := cell_lt hc
      replace hc := cell_later hB hc
      simp only at hbl
      have h256 : bs[k].toNat < 256 := bs[k].toNat_lt
      have HMs := fun W (h : Marks W w1.heap.size (pIn (bs.take k))) => h.set hlt
      have HR : Hid (pR (bs.take (k + 1)) = pR (bs.take k) ++ [((bs[k].toNat : Int), (bs[k].toNat : Int))]) := hide (pR_snoc hlt)
      have hlp : (pR (bs.take k)).length = k := by rw [pR_length, List.length_take]; omega
      generalize bs[k].toNat = c at *
      rename (c < 256) => hc256
      go_wp2_with fail
      obtain ⟨wa, hwa⟩ : ∃ wa, wa = wr.drew := ⟨_, rfl⟩
      have hBa : Below w1.heap.size w1 wa := by rw [hwa]; exact hB.drew
      have hoq : OwnR wa (w1.heap.size + 1) 34 u3 (pR (bs.take k)) := by rw [hwa]; exact ho
      have hMq : Marks wa w1.heap.size (pIn (bs.take k)) := by rw [hwa]; exact ⟨hM.cell, hM.free⟩
      have hszq : w1.heap.size + 1 ≤ wa.heap.size := cell_lt (hMq.cell 0 (by omega))
      have hcw : ∀ wx, Below (w1.heap.size + 1) wa wx → wx.cell? ⟨b, off + k * 1, none⟩ = some (.int .u8 (c : Int)) := fun wx hx => by
        rw [Nat.mul_one]
        rw [hx.cell (p := ⟨b, off + k, none⟩) (by simp only; omega), hwa]
        exact hc
      refine Reg.start (B := w1.heap.size + 1) (by kernel_rfl) ?_
      rw [← hwa]
      refine Reg.take (fun _ _ _ _ _ h => h) 0 _ 22 (u3) rfl (by kernel_rfl) (by kernel_rfl) (by kernel_rfl) rfl (by kernel_rfl) (by kernel_rfl) (fun _ _ => by kernel_rfl) ?_
      refine Reg.take (fun _ _ _ _ _ h => h) 1 _ 23 (.slice (some ⟨b, off, none⟩) bs.length ca) rfl (by kernel_rfl) (by kernel_rfl) (by kernel_rfl) rfl (by kernel_rfl) (by kernel_rfl) (fun _ _ => by kernel_rfl) ?_
      refine Reg.take (fun _ _ _ _ _ h => h) 2 _ 24 (.int .i64 (k : Int)) rfl (by kernel_rfl) (by kernel_rfl) (by kernel_rfl) rfl (by kernel_rfl) (by kernel_rfl) (fun _ _ => by kernel_rfl) ?_
      refine Reg.take (fun _ _ _ _ _ h => h) 3 _ 25 (.pointer (some ⟨b, off + k * 1, none⟩)) rfl (by kernel_rfl) (by kernel_rfl) (by kernel_rfl) rfl (by kernel_rfl) (by kernel_rfl) (fun wx _ => Reg.ix (len := bs.length) (cap := ca) (q := .i64) rfl (by kernel_rfl) (by kernel_rfl) hlt Try.underlying41 (elemSize41 wx)) ?_
      refine Reg.take (fun _ _ _ _ _ h => h) 4 _ 26 (.int .u8 (c : Int)) rfl (by kernel_rfl) (by kernel_rfl) (by kernel_rfl) rfl (by kernel_rfl) (by kernel_rfl) (fun wx hx => Reg.ld1 rfl (by kernel_rfl) (hcw wx hx) (by kernel_rfl)) ?_
      refine Reg.take (fun _ _ _ _ _ h => h) 5 _ 27 (.int .i32 (c : Int)) rfl (by kernel_rfl) (by kernel_rfl) (by kernel_rfl) rfl (by kernel_rfl) (by kernel_rfl) (fun wx _ => Reg.cvt rfl (by kernel_rfl) (cvt8 wx c hc256)) ?_
      refine Reg.take (fun _ _ _ _ _ h => h) 6 _ 28 (.slice (some ⟨b, off, none⟩) bs.length ca) rfl (by kernel_rfl) (by kernel_rfl) (by kernel_rfl) rfl (by kernel_rfl) (by kernel_rfl) (fun _ _ => by kernel_rfl) ?_
      refine Reg.take (fun _ _ _ _ _ h => h) 7 _ 29 (.int .i64 (k : Int)) rfl (by kernel_rfl) (by kernel_rfl) (by kernel_rfl) rfl (by kernel_rfl) (by kernel_rfl) (fun _ _ => by kernel_rfl) ?_
      refine Reg.take (fun _ _ _ _ _ h => h) 8 _ 30 (.pointer (some ⟨b, off + k * 1, none⟩)) rfl (by kernel_rfl) (by kernel_rfl) (by kernel_rfl) rfl (by kernel_rfl) (by kernel_rfl) (fun wx _ => Reg.ix (len := bs.length) (cap := ca) (q := .i64) rfl (by kernel_rfl) (by kernel_rfl) hlt Try.underlying41 (elemSize41 wx)) ?_
      refine Reg.take (fun _ _ _ _ _ h => h) 9 _ 31 (.int .u8 (c : Int)) rfl (by kernel_rfl) (by kernel_rfl) (by kernel_rfl) rfl (by kernel_rfl) (by kernel_rfl) (fun wx hx => Reg.ld1 rfl (by kernel_rfl) (hcw wx hx) (by kernel_rfl)) ?_
      refine Reg.take (fun _ _ _ _ _ h => h) 10 _ 32 (.int .i32 (c : Int)) rfl (by kernel_rfl) (by kernel_rfl) (by kernel_rfl) rfl (by kernel_rfl) (by kernel_rfl) (fun wx _ => Reg.cvt rfl (by kernel_rfl) (cvt8 wx c hc256)) ?_
      refine Reg.take (fun _ _ _ _ _ h => h) 11 _ 33 (.agg #[.int .i32 (c : Int), .int .i32 (c : Int)]) rfl (by kernel_rfl) (by kernel_rfl) (by kernel_rfl) rfl (by kernel_rfl) (by kernel_rfl) (fun _ _ => by kernel_rfl) ?_
      refine Reg.only 12 _ 34 rfl (by kernel_rfl) rfl (by kernel_rfl) (by kernel_rfl) ⟨.slice (some ⟨wa.heap.size, 0, none⟩) 1 1, wa.alloc (.cells #[.int .i32 (c : Int), .int .i32 (c : Int)] 34), w1.heap.size + 1, Reg.bs1 rfl (by kernel_rfl), Nat.le_refl _, (al1 _ _).mono hszq, ?_⟩
      obtain ⟨v', w5, hrun, hown', hb5, hgr5⟩ := run_appR Try.underlying22 info34 (wa.alloc (.cells #[.int .i32 (c : Int), .int .i32 (c : Int)] 34)) (w1.heap.size + 1) _ (pR (bs.take k)) (some ⟨wa.heap.size, 0, none⟩) [((c : Int), (c : Int))] 1 22 (hoq.later (al1 _ _)) (by simp; omega) (rdr_new _ _ _ _) (fun e => by cases e) (by rw [pR_length]; simp; omega)
      refine Reg.only 13 _ 35 rfl (by kernel_rfl) rfl (by kernel_rfl) (by kernel_rfl) ⟨v', w5, w1.heap.size + 1, Reg.app rfl (by kernel_rfl) (by kernel_rfl) hrun, Nat.le_refl _, hb5, ?_⟩
      refine Reg.take (fun _ _ _ _ _ h => h) 14 _ 3 (v') rfl (by kernel_rfl) (by kernel_rfl) (by kernel_rfl) rfl (by kernel_rfl) (by kernel_rfl) (fun _ _ => by kernel_rfl) ?_
      refine Reg.done_at (by kernel_rfl) { tmps := (.slice (some ⟨b, off, none⟩) bs.length ca :: undef :: .bool false :: v' :: .pointer (some ⟨w1.heap.size, 0, none⟩) :: .int .i64 (k : Int) :: undef :: undef :: undef :: undef :: undef :: .bool true :: .bool false :: .slice (some ⟨b, off, none⟩) bs.length ca :: .int .i64 (bs.length : Int) :: .bool (decide (150 < (bs.length : Int))) :: .int .i64 (k : Int) :: .slice (some ⟨b, off, none⟩) bs.length ca :: .int .i64 (bs.length : Int) :: .bool true :: u20 :: u21 :: u3 :: .slice (some ⟨b, off, none⟩) bs.length ca :: .int .i64 (k : Int) :: .pointer (some ⟨b, off + k * 1, none⟩) :: .int .u8 (c : Int) :: .int .i32 (c : Int) :: .slice (some ⟨b, off, none⟩) bs.length ca :: .int .i64 (k : Int) :: .pointer (some ⟨b, off + k * 1, none⟩) :: .int .u8 (c : Int) :: .int .i32 (c : Int) :: .agg #[.int .i32 (c : Int), .int .i32 (c : Int)] :: .slice (some ⟨wa.heap.size, 0, none⟩) 1 1 :: v' :: u36 :: u37 :: u38 :: u39 :: u40 :: undef :: undef :: undef :: undef :: undef :: undef :: undef :: undef :: undef :: undef :: undef :: undef :: undef :: undef :: undef :: undef :: undef :: undef :: undef :: undef :: undef :: undef :: undef :: undef :: undef :: undef :: undef :: undef :: undef :: undef :: undef :: undef :: undef :: undef :: undef :: undef :: undef :: undef :: undef :: undef :: undef :: undef :: undef :: undef :: undef :: undef :: undef :: undef :: undef :: undef :: undef :: undef :: undef :: undef :: undef :: undef :: undef :: undef :: undef :: undef :: undef :: []).toArray, defers := [] } (by kernel_rfl) ?_
      have hb6 : Below (w1.heap.size + 1) wa w5 := ((al1 _ _).mono hszq).trans hb5
      have hB5 : Below w1.heap.size w1 w5 := hBa.trans (hb6.mono (Nat.le_succ _))
      have hM5 := hMq.later hb6
      have hM6 := HMs w5 hM5
      have hcb := hcw w5 hb6
      rw [Nat.mul_one] at hcb
      have hmc := hM5.cell c (by omega)
      have hmf := hM5.free c (by omega)
      rw [← HR.out] at hown'
      have ho6 := OwnR.setBelow (n := c) hown' (.bool true)
      have hB6 := hB5.setCell (p := ⟨w1.heap.size, c, none⟩) (Nat.le_refl _) (.bool true)
      clear hcw hwa hszq hMq hoq hBa hb6 hb5 hgr5 hrun ho hM hB hc hM5 HMs hown' hB5
      go_wp2
      go_roundw
      case rel => exact ⟨k + 1, by go_num, by omega, ho6, hM6, hB6⟩
      case measure => simp [intOf]; omega
    · obtain rfl : k = bs.length := by omega
      rw [List.take_length] at ho hM
      obtain ⟨aa, cc, rfl, _, _, hra⟩ := ho.rd
      rw [pR_length]
      have hszm := cell_lt (hM.cell 0 (by omega))
      simp only at hszm
      clear h ho hlt hk
      go_wp2_with fail
      refine (pt_norm bs hk1 aa cc wr hra).mono ?_
      clear hra
      rintro e w3 ⟨a3, c3, rfl, hr3, hb3⟩
      replace hM := hM.later (hb3.mono hszm)
      replace hB := nx (nx hb1 hB) hb3
      go_wp2
      go_loopw [8, 9, 10] (fun x y p ws => ∃ i : Nat, x = .int .i64 (pRun bs i : Nat) ∧ y = .int .i64 (pN bs i : Nat) ∧ p = .int .i64 (i : Int) ∧ i ≤ 256 ∧ Marks ws w1.heap.size (pIn bs) ∧ Below w3.heap.size w3 ws) (fun _ _ p _ => 256 - (intOf p).toNat)
      case atStart => exact ⟨0, rfl, rfl, rfl, Nat.zero_le _, hM, Below.refl _ _⟩
      case round =>
        obtain ⟨i, rfl, rfl, rfl, hi, hM, hB3⟩ := hrel
        by_cases hlt : i < 256
        · have hn1 := pN_le bs i
          have hn2 := pRun_le bs i
          have hmc := hM.cell i (by omega)
          have HN := hide (pN_succ bs i)
          have HR := hide (pRun_succ bs i)
          obtain ⟨q, hq⟩ : ∃ q, pIn bs i = q := ⟨_, rfl⟩
          rw [hq] at hmc
          have Hq := hide hq
          clear hq
          cases q with
          | false =>
            have HN2 : Hid (pN bs (i + 1) = pN bs i) := hide (by rw [HN.out, Hq.out]; simp)
            have HR2 : Hid (pRun bs (i + 1) = pRun bs i) := hide (by rw [HR.out, Hq.out]; simp)
            clear HN HR
            go_wp2_with fail
            obtain ⟨wa, hwa⟩ : ∃ wa, wa = wr.drew := ⟨_, rfl⟩
            have hBa : Below w3.heap.size w3 wa := by rw [hwa]; exact hB3.drew
            have hMa : Marks wa w1.heap.size (pIn bs) := by rw [hwa]; exact ⟨hM.cell, hM.free⟩
            have hla := cell_lt (hMa.cell 0 (by omega))
            simp only at hla
            have hcw : ∀ wx, Below wa.heap.size wa wx → wx.cell? ⟨w1.heap.size, 0 + i * 1, none⟩ = some (.bool false) := fun wx hx => by
              rw [Nat.zero_add, Nat.mul_one, hx.cell (p := ⟨w1.heap.size, i, none⟩) hla, hMa.cell i (by omega), Hq.out]
            have hHas := pt_has bs i a3 c3 wa (hr3.later hBa)
            rw [Hq.out] at hHas
            refine Reg.start (B := wa.heap.size) (by kernel_rfl) ?_
            rw [← hwa]
            refine Reg.take (fun _ _ _ _ _ h => h) 0 _ 66 (.slice a3 (pRun bs 256) c3) rfl (by kernel_rfl) (by kernel_rfl) (by kernel_rfl) rfl (by kernel_rfl) (by kernel_rfl) (fun _ _ => by kernel_rfl) ?_
            refine Reg.take (fun _ _ _ _ _ h => h) 1 _ 67 (.int .i64 (i : Int)) rfl (by kernel_rfl) (by kernel_rfl) (by kernel_rfl) rfl (by kernel_rfl) (by kernel_rfl) (fun _ _ => by kernel_rfl) ?_
            refine Reg.take (fun _ _ _ _ _ h => h) 2 _ 68 (.int .i32 (i : Int)) rfl (by kernel_rfl) (by kernel_rfl) (by kernel_rfl) rfl (by kernel_rfl) (by kernel_rfl) (fun wx _ => Reg.cvt rfl (by kernel_rfl) (cvt64 wx i hlt)) ?_
            refine Reg.take (fun _ _ _ _ _ h => h) 4 _ 70 (.int .i64 (i : Int)) rfl (by kernel_rfl) (by kernel_rfl) (by kernel_rfl) rfl (by kernel_rfl) (by kernel_rfl) (fun _ _ => by kernel_rfl) ?_
            refine Reg.take (fun _ _ _ _ _ h => h) 5 _ 71 (.pointer (some ⟨w1.heap.size, 0 + i * 1, none⟩)) rfl (by kernel_rfl) (by kernel_rfl) (by kernel_rfl) rfl (by kernel_rfl) (by kernel_rfl) (fun wx _ => Reg.ixa (n := 258) (q := .i64) rfl (by kernel_rfl) (by kernel_rfl) (by kernel_rfl) (by omega) (by kernel_rfl) (elemSize42 wx)) ?_
            refine Reg.take (fun _ _ _ _ _ h => h) 6 _ 72 (.bool false) rfl (by kernel_rfl) (by kernel_rfl) (by kernel_rfl) rfl (by kernel_rfl) (by kernel_rfl) (fun wx hx => Reg.ld1 rfl (by kernel_rfl) (hcw wx hx) (by kernel_rfl)) ?_
            refine Reg.call 3 _ 69 25 _ _ #[.slice a3 (pRun bs 256) c3, .int .i32 (i : Int)] rfl (by kernel_rfl) rfl (by kernel_rfl) (by kernel_rfl) rfl (by kernel_rfl) (by kernel_rfl) hHas ?_
            rintro e w6 ⟨rfl, hb6⟩
            refine ⟨_, w6.heap.size, rfl, hb6.size, hb6, ?_⟩
            refine Reg.take (fun _ _ _ _ _ h => h) 7 _ 73 (.bool false) rfl (by kernel_rfl) (by kernel_rfl) (by kernel_rfl) rfl (by kernel_rfl) (by kernel_rfl) (fun _ _ => by kernel_rfl) ?_
            refine Reg.done (by kernel_rfl) ?_
            simp only [Reg.ov, Act.put, List.setIfInBounds_toArray, List.set_cons_succ, List.set_cons_zero]
            have hM6 := hMa.later (hb6.mono hla)
            have hB6 := nx hBa hb6
            clear hcw hHas hwa hBa hMa hM hB3 hb6 hla
            go_wp2
            go_roundw
            case rel => exact ⟨i + 1, by rw [HR2.out], by rw [HN2.out], by go_num, by omega, hM6, hB6⟩
            case measure => simp [intOf]; omega
          | true =>
            have HN2 : Hid (pN bs (i + 1) = pN bs i + 1) := hide (by rw [HN.out, Hq.out]; simp)
            clear HN
            by_cases hz : i = 0
            · subst hz
              have HR2 : Hid (pRun bs (0 + 1) = pRun bs 0 + 1) := hide (by rw [HR.out, Hq.out]; simp)
              clear HR
              go_wp2_with fail
              obtain ⟨wa, hwa⟩ : ∃ wa, wa = wr.drew := ⟨_, rfl⟩
              have hBa : Below w3.heap.size w3 wa := by rw [hwa]; exact hB3.drew
              have hMa : Marks wa w1.heap.size (pIn bs) := by rw [hwa]; exact ⟨hM.cell, hM.free⟩
              have hla := cell_lt (hMa.cell 0 (by omega))
              simp only at hla
              have hcw : ∀ wx, Below wa.heap.size wa wx → wx.cell? ⟨w1.heap.size, 0 + 0 * 1, none⟩ = some (.bool true) := fun wx hx => by
                rw [Nat.zero_add, Nat.mul_one, hx.cell (p := ⟨w1.heap.size, 0, none⟩) hla, hMa.cell 0 (by omega), Hq.out]
              have hHas := pt_has bs 0 a3 c3 wa (hr3.later hBa)
              rw [Hq.out] at hHas
              refine Reg.start (B := wa.heap.size) (by kernel_rfl) ?_
              rw [← hwa]
              refine Reg.take (fun _ _ _ _ _ h => h) 0 _ 66 (.slice a3 (pRun bs 256) c3) rfl (by kernel_rfl) (by kernel_rfl) (by kernel_rfl) rfl (by kernel_rfl) (by kernel_rfl) (fun _ _ => by kernel_rfl) ?_
              refine Reg.take (fun _ _ _ _ _ h => h) 1 _ 67 (.int .i64 ((0 : Nat) : Int)) rfl (by kernel_rfl) (by kernel_rfl) (by kernel_rfl) rfl (by kernel_rfl) (by kernel_rfl) (fun _ _ => by kernel_rfl) ?_
              refine Reg.take (fun _ _ _ _ _ h => h) 2 _ 68 (.int .i32 ((0 : Nat) : Int)) rfl (by kernel_rfl) (by kernel_rfl) (by kernel_rfl) rfl (by kernel_rfl) (by kernel_rfl) (fun wx _ => Reg.cvt rfl (by kernel_rfl) (cvt64 wx 0 hlt)) ?_
              refine Reg.take (fun _ _ _ _ _ h => h) 4 _ 70 (.int .i64 ((0 : Nat) : Int)) rfl (by kernel_rfl) (by kernel_rfl) (by kernel_rfl) rfl (by kernel_rfl) (by kernel_rfl) (fun _ _ => by kernel_rfl) ?_
              refine Reg.take (fun _ _ _ _ _ h => h) 5 _ 71 (.pointer (some ⟨w1.heap.size, 0 + 0 * 1, none⟩)) rfl (by kernel_rfl) (by kernel_rfl) (by kernel_rfl) rfl (by kernel_rfl) (by kernel_rfl) (fun wx _ => Reg.ixa (n := 258) (q := .i64) rfl (by kernel_rfl) (by kernel_rfl) (by kernel_rfl) (by omega) (by kernel_rfl) (elemSize42 wx)) ?_
              refine Reg.take (fun _ _ _ _ _ h => h) 6 _ 72 (.bool true) rfl (by kernel_rfl) (by kernel_rfl) (by kernel_rfl) rfl (by kernel_rfl) (by kernel_rfl) (fun wx hx => Reg.ld1 rfl (by kernel_rfl) (hcw wx hx) (by kernel_rfl)) ?_
              refine Reg.call 3 _ 69 25 _ _ #[.slice a3 (pRun bs 256) c3, .int .i32 ((0 : Nat) : Int)] rfl (by kernel_rfl) rfl (by kernel_rfl) (by kernel_rfl) rfl (by kernel_rfl) (by kernel_rfl) hHas ?_
              rintro e w6 ⟨rfl, hb6⟩
              refine ⟨_, w6.heap.size, rfl, hb6.size, hb6, ?_⟩
              refine Reg.take (fun _ _ _ _ _ h => h) 7 _ 73 (.bool false) rfl (by kernel_rfl) (by kernel_rfl) (by kernel_rfl) rfl (by kernel_rfl) (by kernel_rfl) (fun _ _ => by kernel_rfl) ?_
              refine Reg.done (by kernel_rfl) ?_
              simp only [Reg.ov, Act.put, List.setIfInBounds_toArray, List.set_cons_succ, List.set_cons_zero]
              have hM6 := hMa.later (hb6.mono hla)
              have hB6 := nx hBa hb6
              clear hcw hHas hwa hBa hMa hM hB3 hb6 hla
              go_wp2
              go_roundw
              case rel => exact ⟨0 + 1, by rw [HR2.out]; rfl, by rw [HN2.out]; rfl, by go_num, by omega, hM6, hB6⟩
              case measure => simp [intOf]
            · have hmp := hM.cell (i - 1) (by omega)
              obtain ⟨q', hq'⟩ : ∃ q', pIn bs (i - 1) = q' := ⟨_, rfl⟩
              rw [hq'] at hmp
              cases q' with
              | false =>
                have HR2 : Hid (pRun bs (i + 1) = pRun bs i + 1) := hide (by rw [HR.out, Hq.out, hq']; simp)
                clear HR hq'
                have hz' : 0 < i := Nat.pos_of_ne_zero hz
                clear hz
                go_wp2_with fail
                obtain ⟨wa, hwa⟩ : ∃ wa, wa = wr.drew := ⟨_, rfl⟩
                have hBa : Below w3.heap.size w3 wa := by rw [hwa]; exact hB3.drew
                have hMa : Marks wa w1.heap.size (pIn bs) := by rw [hwa]; exact ⟨hM.cell, hM.free⟩
                have hla := cell_lt (hMa.cell 0 (by omega))
                simp only at hla
                have hcw : ∀ wx, Below wa.heap.size wa wx → wx.cell? ⟨w1.heap.size, 0 + i * 1, none⟩ = some (.bool true) := fun wx hx => by
                  rw [Nat.zero_add, Nat.mul_one, hx.cell (p := ⟨w1.heap.size, i, none⟩) hla, hMa.cell i (by omega), Hq.out]
                have hHas := pt_has bs i a3 c3 wa (hr3.later hBa)
                rw [Hq.out] at hHas
                refine Reg.start (B := wa.heap.size) (by kernel_rfl) ?_
                rw [← hwa]
                refine Reg.take (fun _ _ _ _ _ h => h) 0 _ 66 (.slice a3 (pRun bs 256) c3) rfl (by kernel_rfl) (by kernel_rfl) (by kernel_rfl) rfl (by kernel_rfl) (by kernel_rfl) (fun _ _ => by kernel_rfl) ?_
                refine Reg.take (fun _ _ _ _ _ h => h) 1 _ 67 (.int .i64 (i : Int)) rfl (by kernel_rfl) (by kernel_rfl) (by kernel_rfl) rfl (by kernel_rfl) (by kernel_rfl) (fun _ _ => by kernel_rfl) ?_
                refine Reg.take (fun _ _ _ _ _ h => h) 2 _ 68 (.int .i32 (i : Int)) rfl (by kernel_rfl) (by kernel_rfl) (by kernel_rfl) rfl (by kernel_rfl) (by kernel_rfl) (fun wx _ => Reg.cvt rfl (by kernel_rfl) (cvt64 wx i hlt)) ?_
                refine Reg.take (fun _ _ _ _ _ h => h) 4 _ 70 (.int .i64 (i : Int)) rfl (by kernel_rfl) (by kernel_rfl) (by kernel_rfl) rfl (by kernel_rfl) (by kernel_rfl) (fun _ _ => by kernel_rfl) ?_
                refine Reg.take (fun _ _ _ _ _ h => h) 5 _ 71 (.pointer (some ⟨w1.heap.size, 0 + i * 1, none⟩)) rfl (by kernel_rfl) (by kernel_rfl) (by kernel_rfl) rfl (by kernel_rfl) (by kernel_rfl) (fun wx _ => Reg.ixa (n := 258) (q := .i64) rfl (by kernel_rfl) (by kernel_rfl) (by kernel_rfl) (by omega) (by kernel_rfl) (elemSize42 wx)) ?_
                refine Reg.take (fun _ _ _ _ _ h => h) 6 _ 72 (.bool true) rfl (by kernel_rfl) (by kernel_rfl) (by kernel_rfl) rfl (by kernel_rfl) (by kernel_rfl) (fun wx hx => Reg.ld1 rfl (by kernel_rfl) (hcw wx hx) (by kernel_rfl)) ?_
                refine Reg.call 3 _ 69 25 _ _ #[.slice a3 (pRun bs 256) c3, .int .i32 (i : Int)] rfl (by kernel_rfl) rfl (by kernel_rfl) (by kernel_rfl) rfl (by kernel_rfl) (by kernel_rfl) hHas ?_
                rintro e w6 ⟨rfl, hb6⟩
                refine ⟨_, w6.heap.size, rfl, hb6.size, hb6, ?_⟩
                refine Reg.take (fun _ _ _ _ _ h => h) 7 _ 73 (.bool false) rfl (by kernel_rfl) (by kernel_rfl) (by kernel_rfl) rfl (by kernel_rfl) (by kernel_rfl) (fun _ _ => by kernel_rfl) ?_
                refine Reg.done (by kernel_rfl) ?_
                simp only [Reg.ov, Act.put, List.setIfInBounds_toArray, List.set_cons_succ, List.set_cons_zero]
                have hM6 := hMa.later (hb6.mono hla)
                have hB6 := nx hBa hb6
                clear hcw hHas hwa hBa hMa hM hB3 hb6 hla
                go_wp2
                go_roundw
                case rel => exact ⟨i + 1, by rw [HR2.out]; rfl, by rw [HN2.out]; rfl, by go_num, by omega, hM6, hB6⟩
                case measure => simp [intOf]; omega
              | true =>
                have HR2 : Hid (pRun bs (i + 1) = pRun bs i) := hide (by rw [HR.out, Hq.out, hq']; simp [hz])
                clear HR hq'
                have hz' : 0 < i := Nat.pos_of_ne_zero hz
                clear hz
                go_wp2_with fail
                obtain ⟨wa, hwa⟩ : ∃ wa, wa = wr.drew := ⟨_, rfl⟩
                have hBa : Below w3.heap.size w3 wa := by rw [hwa]; exact hB3.drew
                have hMa : Marks wa w1.heap.size (pIn bs) := by rw [hwa]; exact ⟨hM.cell, hM.free⟩
                have hla := cell_lt (hMa.cell 0 (by omega))
                simp only at hla
                have hcw : ∀ wx, Below wa.heap.size wa wx → wx.cell? ⟨w1.heap.size, 0 + i * 1, none⟩ = some (.bool true) := fun wx hx => by
                  rw [Nat.zero_add, Nat.mul_one, hx.cell (p := ⟨w1.heap.size, i, none⟩) hla, hMa.cell i (by omega), Hq.out]
                have hHas := pt_has bs i a3 c3 wa (hr3.later hBa)
                rw [Hq.out] at hHas
                refine Reg.start (B := wa.heap.size) (by kernel_rfl) ?_
                rw [← hwa]
                refine Reg.take (fun _ _ _ _ _ h => h) 0 _ 66 (.slice a3 (pRun bs 256) c3) rfl (by kernel_rfl) (by kernel_rfl) (by kernel_rfl) rfl (by kernel_rfl) (by kernel_rfl) (fun _ _ => by kernel_rfl) ?_
                refine Reg.take (fun _ _ _ _ _ h => h) 1 _ 67 (.int .i64 (i : Int)) rfl (by kernel_rfl) (by kernel_rfl) (by kernel_rfl) rfl (by kernel_rfl) (by kernel_rfl) (fun _ _ => by kernel_rfl) ?_
                refine Reg.take (fun _ _ _ _ _ h => h) 2 _ 68 (.int .i32 (i : Int)) rfl (by kernel_rfl) (by kernel_rfl) (by kernel_rfl) rfl (by kernel_rfl) (by kernel_rfl) (fun wx _ => Reg.cvt rfl (by kernel_rfl) (cvt64 wx i hlt)) ?_
                refine Reg.take (fun _ _ _ _ _ h => h) 4 _ 70 (.int .i64 (i : Int)) rfl (by kernel_rfl) (by kernel_rfl) (by kernel_rfl) rfl (by kernel_rfl) (by kernel_rfl) (fun _ _ => by kernel_rfl) ?_
                refine Reg.take (fun _ _ _ _ _ h => h) 5 _ 71 (.pointer (some ⟨w1.heap.size, 0 + i * 1, none⟩)) rfl (by kernel_rfl) (by kernel_rfl) (by kernel_rfl) rfl (by kernel_rfl) (by kernel_rfl) (fun wx _ => Reg.ixa (n := 258) (q := .i64) rfl (by kernel_rfl) (by kernel_rfl) (by kernel_rfl) (by omega) (by kernel_rfl) (elemSize42 wx)) ?_
                refine Reg.take (fun _ _ _ _ _ h => h) 6 _ 72 (.bool true) rfl (by kernel_rfl) (by kernel_rfl) (by kernel_rfl) rfl (by kernel_rfl) (by kernel_rfl) (fun wx hx => Reg.ld1 rfl (by kernel_rfl) (hcw wx hx) (by kernel_rfl)) ?_
                refine Reg.call 3 _ 69 25 _ _ #[.slice a3 (pRun bs 256) c3, .int .i32 (i : Int)] rfl (by kernel_rfl) rfl (by kernel_rfl) (by kernel_rfl) rfl (by kernel_rfl) (by kernel_rfl) hHas ?_
                rintro e w6 ⟨rfl, hb6⟩
                refine ⟨_, w6.heap.size, rfl, hb6.size, hb6, ?_⟩
                refine Reg.take (fun _ _ _ _ _ h => h) 7 _ 73 (.bool false) rfl (by kernel_rfl) (by kernel_rfl) (by kernel_rfl) rfl (by kernel_rfl) (by kernel_rfl) (fun _ _ => by kernel_rfl) ?_
                refine Reg.done (by kernel_rfl) ?_
                simp only [Reg.ov, Act.put, List.setIfInBounds_toArray, List.set_cons_succ, List.set_cons_zero]
                have hM6 := hMa.later (hb6.mono hla)
                have hB6 := nx hBa hb6
                clear hcw hHas hwa hBa hMa hM hB3 hb6 hla
                go_wp2
                go_roundw
                case rel => exact ⟨i + 1, by rw [HR2.out], by rw [HN2.out]; rfl, by go_num, by omega, hM6, hB6⟩
                case measure => simp [intOf]; omega
        · obtain rfl : i = 256 := by omega
          replace hr3 := hr3.later hB3
          replace hB := nx hB hB3
          clear hM hi hlt hB3
          go_wp2_with fail
          refine (pt_count bs a3 c3 wr hr3).mono ?_
          rintro e w4 ⟨rfl, hb4⟩
          replace hr3 := hr3.later hb4
          replace hB := nx hB hb4
          go_wp2_with fail
          refine (pt_is bs a3 c3 w4 hr3).mono ?_
          rintro e w5 ⟨rfl, hb5⟩
          replace hr3 := hr3.later hb5
          replace hB := nx hB hb5
          go_wp2_with fail
          refine (pt_has256 bs a3 c3 w5 hr3).mono ?_
          rintro e w6 ⟨rfl, hb6⟩
          replace hr3 := hr3.later hb6
          replace hB := nx hB hb6
          go_wp2_with fail
          refine (pt_neg bs a3 c3 w6 hr3).mono ?_
          rintro e w7 ⟨rfl, hb7⟩
          replace hB := nx hB hb7
          go_wp2
          go_ret
          exact ⟨rfl, hB⟩
end Go.Proofs.Ytenheagfijocjaa
