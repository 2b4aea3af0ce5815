/- The walk of UtfBack: it answers true whatever the bytes, and nothing that was there has turned. -/
import Derived.Test.YtncmepcgafimjaaDoorCuts
import Derived.Test.YtncmepcgafimjaaDoorReg
namespace Go.Proofs.YtncmepcgafimjaaDoor
open Go.RowKit

theorem Reg.neI {P : Program} {w : World} {ρ : Operand → Value} {o : Oper} {t t' : TypeId} {x y : Operand} {k : IntKind} {m : Int} (hop : o.op = .binOp .neq t x y t') (hx : ρ x = .int k m) (hy : ρ y = .int k m) :
    (execOp ρ o).run P w = .ok (.value (.bool false)) w := by
  obtain ⟨dst, op, type, pos, after, guard⟩ := o
  simp only at hop
  subst hop
  simp [execOp, hx, hy, eqGuard, binOp_neq, Sem.run_pure]
theorem Reg.eqSf {P : Program} {w : World} {ρ : Operand → Value} {o : Oper} {t t' : TypeId} {x y : Operand} {s s' : ByteArray} (hop : o.op = .binOp .eql t x y t') (hx : ρ x = .string s) (hy : ρ y = .string s') (hne : ¬ s.toList = s'.toList) :
    (execOp ρ o).run P w = .ok (.value (.bool false)) w := by
  obtain ⟨dst, op, type, pos, after, guard⟩ := o
  simp only at hop
  subst hop
  simp [execOp, hx, hy, eqGuard, binOp, Op.stringOp, Sem.run_pure]
  exact hne

theorem Reg.done_at {P : Program} {ops : Array Oper} {Q : Exit → Act → World → Prop} {a : Act} {B fuel : Nat} {ks : List Nat} {l : List (Nat × Value)} {w : World} (hr : Region.ready .any ops (Reg.lst ops.size ks) = []) (a' : Act) (he : Reg.ov a l = a') (h : Q .normal a' w) : Reg.G P ops Q a B fuel ks l w :=
  Reg.done hr (by rw [he]; exact h)

/-- Where code points begin: at the first place, then one to four bytes further each. -/
theorem rs_first (bs : List UInt8) (st : Nat) (h : 0 < (M.rs st bs).length) : ((M.rs st bs)[0]).1 = st := by
  have hb : bs ≠ [] := by intro e; rw [e, M.rs_nil] at h; simp at h
  have := M.rs_step st hb
  simp only [this, List.getElem_cons_zero]
theorem rs_steps (bs : List UInt8) : ∀ (st i : Nat) (h : i + 1 < (M.rs st bs).length), ((M.rs st bs)[i]).1 < ((M.rs st bs)[i + 1]).1 ∧ ((M.rs st bs)[i + 1]).1 ≤ ((M.rs st bs)[i]).1 + 4 := by
  induction bs using M.rs_ind with
  | h0 => intro st i h; rw [M.rs_nil] at h; simp at h
  | h1 bs hb ih =>
    intro st i h
    have e := M.rs_step st hb
    have hs := M.dec_size hb
    have hl := congrArg List.length e
    rw [List.length_cons] at hl
    cases i with
    | zero =>
      have := rs_first (bs.drop (M.dec bs).2) (st + (M.dec bs).2) (by omega)
      simp only [e, List.getElem_cons_zero, List.getElem_cons_succ, this]
      omega
    | succ i =>
      have := ih (st + (M.dec bs).2) i (by omega)
      simp only [e, List.getElem_cons_succ]
      exact this
theorem sts_first (bs : List UInt8) (h : 0 < (M.sts bs).length) : (M.sts bs)[0] = 0 := by
  have := rs_first bs 0 (by unfold M.sts at h; simpa using h)
  simp only [M.sts, List.getElem_map, this]
  rfl
theorem sts_steps (bs : List UInt8) (i : Nat) (h : i + 1 < (M.sts bs).length) : (M.sts bs)[i] < (M.sts bs)[i + 1] ∧ (M.sts bs)[i + 1] ≤ (M.sts bs)[i] + 4 := by
  have := rs_steps bs 0 i (by unfold M.sts at h; simpa using h)
  simp only [M.sts, List.getElem_map]
  omega

set_option maxRecDepth 100000 in
set_option maxHeartbeats 4000000 in
theorem back_any (a0 : Option Addr) (cap0 : Nat) (bs : List UInt8) (hm : bs.length ≤ 9223372036854775807) (hcap : bs.length ≤ cap0) (hn0 : a0 = none → cap0 = 0) (w : World) (ht : Tabs w) (hr0 : Rd w a0 (cB bs)) :
    Calls Tryd.prog 4 #[.slice a0 bs.length cap0] w fun e w' => e = .returned (.bool true) ∧ Below w.heap.size w w' := by
  by_cases hbig : 400 < bs.length
  · go_enter Tryd.func4, Tryd.ntmps4
    go_wp2_with fail
    refine (known_any w ht).mono ?_
    rintro e w1 ⟨rfl, hb1⟩
    go_wp2
    go_ret
    exact ⟨rfl, hb1⟩
  clear hm
  go_enter Tryd.func4, Tryd.ntmps4
  go_wp2_with fail
  refine (known_any w ht).mono ?_
  rintro e w1 ⟨rfl, hb1⟩
  have e400 : decide ((400 : Int) < (bs.length : Int)) = false := by simp; omega
  go_wp2_with fail
  clear e400
  refine (runes_any a0 cap0 bs (by omega) hcap hn0 w1 (ht.later hb1) (hr0.later hb1)).mono ?_
  rintro e w2 ⟨v, u, rfl, hv, hu, hb2⟩
  have hB2 := nx hb1 hb2
  obtain ⟨ap, cp, rfl, hcp, hnp, hrp⟩ := hv.rd
  obtain ⟨aq, cq, rfl, hcq, hnq, hrq⟩ := hu.rd
  have hpl := M.pts_le bs
  have hsl : (M.sts bs).length = (M.pts bs).length := (M.pts_length bs).symm
  obtain ⟨g, hg0, hgs, hgq⟩ : ∃ g : Nat → Int, g 0 = 0 ∧ (∀ i, i + 1 < (M.pts bs).length → g i < g (i + 1) ∧ g (i + 1) ≤ g i + 4) ∧ ∀ i, i < (M.pts bs).length → ∃ b off, aq = some ⟨b, off, none⟩ ∧ w2.cell? ⟨b, off + i, none⟩ = some (.int .i64 (g i)) := by
    refine ⟨fun i => (M.sts bs).getD i 0, ?_, fun i hi => ?_, fun i hi => ?_⟩
    · by_cases h : 0 < (M.sts bs).length
      · have := sts_first bs h
        simp only [List.getD_eq_getElem?_getD, List.getElem?_eq_getElem h, Option.getD_some]
        exact this
      · simp only [List.getD_eq_getElem?_getD, List.getElem?_eq_none (show (M.sts bs).length ≤ 0 by omega), Option.getD_none]
    · have := sts_steps bs i (by omega)
      simp only [List.getD_eq_getElem?_getD, List.getElem?_eq_getElem (show i < (M.sts bs).length by omega), List.getElem?_eq_getElem (show i + 1 < (M.sts bs).length by omega), Option.getD_some]
      exact this
    · obtain ⟨b, off, e, hc⟩ := hrq.num i (by omega)
      refine ⟨b, off, e, ?_⟩
      rw [hc]
      simp only [List.getD_eq_getElem?_getD, List.getElem?_eq_getElem (show i < (M.sts bs).length by omega), Option.getD_some]
  have hgb : ∀ i, i < (M.pts bs).length → 0 ≤ g i ∧ g i ≤ 4 * (i : Int) := by
    intro i
    induction i with
    | zero => intro _; rw [hg0]; omega
    | succ i ih => intro hi; have := ih (by omega); have := hgs i hi; omega
  rw [cI_length] at hcp ⊢
  rw [cN_length, hsl] at hcq ⊢
  have HBK := hide (M.pts_back bs)
  have HGC := hide (M.good_back (M.pts bs))
  have HGI := hide (M.good_iff bs)
  have hfx := fun x (hx : x ∈ M.pts bs) => (show -2147483648 ≤ x ∧ x ≤ 2147483647 by
    obtain ⟨s, hs, rfl⟩ := List.mem_map.1 hx
    have := M.rs_valid bs 0 s hs
    unfold M.fix at this
    split at this <;> omega)
  have hel := M.encs_length (M.pts bs)
  clear hv hu hrq hsl hb1 hb2
  generalize M.pts bs = ps at *
  go_wp2_with fail
  refine (bytes_any ap cp ps (by omega) hfx w2 hrp).mono ?_
  rintro e w3 ⟨v3, rfl, ho3, hb3⟩
  obtain ⟨ac, cc, rfl, hcc, hnc, hrc⟩ := ho3.rd
  rw [cB_length] at hcc ⊢
  generalize M.encs ps = cs at *
  clear ho3 hfx
  go_wp2_with fail
  refine (runes_any ac cc cs (by omega) hcc hnc w3 (ht.later (nx hB2 hb3)) hrc).mono ?_
  rintro e w4 ⟨v4, u4, rfl, hv4, _, hb4⟩
  rw [HBK.out] at hv4
  obtain ⟨at', ct, rfl, hct, hnt, hrt⟩ := hv4.rd
  rw [cI_length] at hct ⊢
  have hB4 := nx hB2 (nx hb3 hb4)
  have hrp4 := hrp.later (nx hb3 hb4)
  have hrc4 := hrc.later hb4
  have hr04 := hr0.later hB4
  have ht4 := ht.later hB4
  have hq4 : ∀ i, i < ps.length → ∃ b off, aq = some ⟨b, off, none⟩ ∧ w4.cell? ⟨b, off + i, none⟩ = some (.int .i64 (g i)) := fun i h =>
    let ⟨b, off, e, hc⟩ := hgq i h
    ⟨b, off, e, cell_later (nx hb3 hb4) hc⟩
  clear hv4 hrp hrc hgq hb3 hb4
  go_wp2_with fail
  refine Reg.start (B := w4.drew.heap.size) (by kernel_rfl) ?_
  obtain ⟨wa, hwa⟩ : ∃ wa, wa = w4.drew := ⟨_, rfl⟩
  rw [← hwa]
  have hBa : Below w.heap.size w wa := by rw [hwa]; exact hB4.drew
  have h0 : Rd wa a0 (cB bs) := by rw [hwa]; exact hr04
  have hC : Rd wa ac (cB cs) := by rw [hwa]; exact hrc4
  have hP : Rd wa ap (cI ps) := by rw [hwa]; exact hrp4
  have hT : Rd wa at' (cI ps) := by rw [hwa]; exact (show Rd w4 at' (cI ps) from hrt)
  have hTa : Tabs wa := by rw [hwa]; exact ht4
  have hqa : ∀ i, i < ps.length → ∃ b off, aq = some ⟨b, off, none⟩ ∧ wa.cell? ⟨b, off + i, none⟩ = some (.int .i64 (g i)) := by rw [hwa]; exact hq4
  clear hwa hr04 hrc4 hrp4 hrt ht4 hq4 hB4
  have hG' : (M.good bs = true ∧ bs = cs) ∨ (M.good bs = false ∧ ¬ bs = cs) := by
    cases h : M.good bs with
    | true => exact .inl ⟨rfl, HGI.out.1 h⟩
    | false => exact .inr ⟨rfl, fun e => by have := HGI.out.2 e; rw [h] at this; cases this⟩
  clear HGI HBK
  rcases hG' with ⟨hG, heq⟩ | ⟨hG, hne⟩
  · subst heq
    refine Reg.take (fun _ _ _ _ _ h => h) 0 _ 26 (.slice ap ps.length cp) rfl (by kernel_rfl) (by kernel_rfl) (by kernel_rfl) rfl (by kernel_rfl) (by kernel_rfl) (fun _ _ => by kernel_rfl) ?_
    refine Reg.take (fun _ _ _ _ _ h => h) 1 _ 27 (.int .i64 ((ps.length : Int))) rfl (by kernel_rfl) (by kernel_rfl) (by kernel_rfl) rfl (by kernel_rfl) (by kernel_rfl) (fun _ _ => by kernel_rfl) ?_
    refine Reg.take (fun _ _ _ _ _ h => h) 2 _ 28 (.slice aq ps.length cq) rfl (by kernel_rfl) (by kernel_rfl) (by kernel_rfl) rfl (by kernel_rfl) (by kernel_rfl) (fun _ _ => by kernel_rfl) ?_
    refine Reg.take (fun _ _ _ _ _ h => h) 3 _ 29 (.int .i64 ((ps.length : Int))) rfl (by kernel_rfl) (by kernel_rfl) (by kernel_rfl) rfl (by kernel_rfl) (by kernel_rfl) (fun _ _ => by kernel_rfl) ?_
    refine Reg.take (fun _ _ _ _ _ h => h) 4 _ 30 (.bool false) rfl (by kernel_rfl) (by kernel_rfl) (by kernel_rfl) rfl (by kernel_rfl) (by kernel_rfl) (fun _ _ => Reg.neI (k := .i64) (m := (ps.length : Int)) rfl (by kernel_rfl) (by kernel_rfl)) ?_
    refine Reg.take (fun _ _ _ _ _ h => h) 5 _ 31 (.bool false) rfl (by kernel_rfl) (by kernel_rfl) (by kernel_rfl) rfl (by kernel_rfl) (by kernel_rfl) (fun _ _ => by kernel_rfl) ?_
    refine Reg.take (fun _ _ _ _ _ h => h) 6 _ 32 (.slice ap ps.length cp) rfl (by kernel_rfl) (by kernel_rfl) (by kernel_rfl) rfl (by kernel_rfl) (by kernel_rfl) (fun _ _ => by kernel_rfl) ?_
    refine Reg.take (fun _ _ _ _ _ h => h) 7 _ 33 (.slice at' ps.length ct) rfl (by kernel_rfl) (by kernel_rfl) (by kernel_rfl) rfl (by kernel_rfl) (by kernel_rfl) (fun _ _ => by kernel_rfl) ?_
    have hcall := same_any ap at' cp ct ps ps (by omega) wa hP hT
    rw [decide_eq_true (rfl : ps = ps)] at hcall
    refine Reg.call 8 _ 34 11 _ _ #[.slice ap ps.length cp, .slice at' ps.length ct] rfl (by kernel_rfl) rfl (by kernel_rfl) (by kernel_rfl) rfl (by kernel_rfl) (by kernel_rfl) hcall ?_
    clear hcall
    rintro e w34 ⟨rfl, hb34⟩
    refine ⟨_, w34.heap.size, rfl, hb34.size, hb34, ?_⟩
    replace hP := hP.later hb34
    replace hT := hT.later hb34
    replace hC := hC.later hb34
    replace h0 := h0.later hb34
    replace hTa := hTa.later hb34
    refine Reg.take (fun _ _ _ _ _ h => h) 9 _ 35 (.bool false) rfl (by kernel_rfl) (by kernel_rfl) (by kernel_rfl) rfl (by kernel_rfl) (by kernel_rfl) (fun _ _ => by kernel_rfl) ?_
    refine Reg.take (fun _ _ _ _ _ h => h) 10 _ 36 (.bool false) rfl (by kernel_rfl) (by kernel_rfl) (by kernel_rfl) rfl (by kernel_rfl) (by kernel_rfl) (fun _ _ => by kernel_rfl) ?_
    refine Reg.take (fun _ _ _ _ _ h => h) 11 _ 37 (.bool false) rfl (by kernel_rfl) (by kernel_rfl) (by kernel_rfl) rfl (by kernel_rfl) (by kernel_rfl) (fun _ _ => by kernel_rfl) ?_
    refine Reg.take (fun _ _ _ _ _ h => h) 12 _ 38 (.slice ac bs.length cc) rfl (by kernel_rfl) (by kernel_rfl) (by kernel_rfl) rfl (by kernel_rfl) (by kernel_rfl) (fun _ _ => by kernel_rfl) ?_
    have hcall := good_any ac cc bs (by omega) hcc hnc w34 hTa hC
    rw [HGC.out] at hcall
    refine Reg.call 13 _ 39 12 _ _ #[.slice ac bs.length cc] rfl (by kernel_rfl) rfl (by kernel_rfl) (by kernel_rfl) rfl (by kernel_rfl) (by kernel_rfl) hcall ?_
    clear hcall
    rintro e w39 ⟨rfl, hb39⟩
    refine ⟨_, w39.heap.size, rfl, hb39.size, hb39, ?_⟩
    replace hP := hP.later hb39
    replace hT := hT.later hb39
    replace hC := hC.later hb39
    replace h0 := h0.later hb39
    replace hTa := hTa.later hb39
    refine Reg.take (fun _ _ _ _ _ h => h) 14 _ 40 (.bool false) rfl (by kernel_rfl) (by kernel_rfl) (by kernel_rfl) rfl (by kernel_rfl) (by kernel_rfl) (fun _ _ => by kernel_rfl) ?_
    refine Reg.take (fun _ _ _ _ _ h => h) 15 _ 41 (.bool false) rfl (by kernel_rfl) (by kernel_rfl) (by kernel_rfl) rfl (by kernel_rfl) (by kernel_rfl) (fun _ _ => by kernel_rfl) ?_
    refine Reg.take (fun _ _ _ _ _ h => h) 16 _ 42 (.bool false) rfl (by kernel_rfl) (by kernel_rfl) (by kernel_rfl) rfl (by kernel_rfl) (by kernel_rfl) (fun _ _ => by kernel_rfl) ?_
    refine Reg.take (fun _ _ _ _ _ h => h) 17 _ 43 (.slice a0 bs.length cap0) rfl (by kernel_rfl) (by kernel_rfl) (by kernel_rfl) rfl (by kernel_rfl) (by kernel_rfl) (fun _ _ => by kernel_rfl) ?_
    refine Reg.take (fun _ _ _ _ _ h => h) 19 _ 45 (.slice a0 bs.length cap0) rfl (by kernel_rfl) (by kernel_rfl) (by kernel_rfl) rfl (by kernel_rfl) (by kernel_rfl) (fun _ _ => by kernel_rfl) ?_
    refine Reg.take (fun _ _ _ _ _ h => h) 20 _ 46 (.string ⟨bs.toArray⟩) rfl (by kernel_rfl) (by kernel_rfl) (by kernel_rfl) rfl (by kernel_rfl) (by kernel_rfl) (fun w' hb => Reg.cvt rfl (u := .slice a0 bs.length cap0) (by kernel_rfl) (conv_any w' a0 bs cap0 (h0.later hb))) ?_
    refine Reg.take (fun _ _ _ _ _ h => h) 21 _ 47 (.slice ac bs.length cc) rfl (by kernel_rfl) (by kernel_rfl) (by kernel_rfl) rfl (by kernel_rfl) (by kernel_rfl) (fun _ _ => by kernel_rfl) ?_
    refine Reg.take (fun _ _ _ _ _ h => h) 22 _ 48 (.string ⟨bs.toArray⟩) rfl (by kernel_rfl) (by kernel_rfl) (by kernel_rfl) rfl (by kernel_rfl) (by kernel_rfl) (fun w' hb => Reg.cvt rfl (u := .slice ac bs.length cc) (by kernel_rfl) (conv_any w' ac bs cc (hC.later hb))) ?_
    refine Reg.take (fun _ _ _ _ _ h => h) 23 _ 49 (.bool true) rfl (by kernel_rfl) (by kernel_rfl) (by kernel_rfl) rfl (by kernel_rfl) (by kernel_rfl) (fun _ _ => Reg.eqS (s := ⟨bs.toArray⟩) rfl (by kernel_rfl) (by kernel_rfl)) ?_
    have hcall := good_any a0 cap0 bs (by omega) hcap hn0 w39 hTa h0
    rw [hG] at hcall
    refine Reg.call 18 _ 44 12 _ _ #[.slice a0 bs.length cap0] rfl (by kernel_rfl) rfl (by kernel_rfl) (by kernel_rfl) rfl (by kernel_rfl) (by kernel_rfl) hcall ?_
    clear hcall
    rintro e w44 ⟨rfl, hb44⟩
    refine ⟨_, w44.heap.size, rfl, hb44.size, hb44, ?_⟩
    replace hP := hP.later hb44
    replace hT := hT.later hb44
    replace hC := hC.later hb44
    replace h0 := h0.later hb44
    replace hTa := hTa.later hb44
    refine Reg.take (fun _ _ _ _ _ h => h) 24 _ 50 (.bool false) rfl (by kernel_rfl) (by kernel_rfl) (by kernel_rfl) rfl (by kernel_rfl) (by kernel_rfl) (fun _ _ => by kernel_rfl) ?_
    refine Reg.take (fun _ _ _ _ _ h => h) 25 _ 51 (.bool false) rfl (by kernel_rfl) (by kernel_rfl) (by kernel_rfl) rfl (by kernel_rfl) (by kernel_rfl) (fun _ _ => by kernel_rfl) ?_
    refine Reg.done_at (by kernel_rfl) { tmps := #[.slice a0 bs.length cap0, undef, .bool false, .slice ap ps.length cp, .slice aq ps.length cq, .slice ac bs.length cc, .slice at' ps.length ct, u4, undef, .bool true, .bool false, .slice a0 bs.length cap0, .int .i64 (bs.length : Int), .bool false, .tuple #[.slice ap ps.length cp, .slice aq ps.length cq], .slice a0 bs.length cap0, .tuple #[.slice ap ps.length cp, .slice aq ps.length cq], .slice ap ps.length cp, .slice aq ps.length cq, .slice ap ps.length cp, .slice ac bs.length cc, .tuple #[.slice at' ps.length ct, u4], .slice ac bs.length cc, .tuple #[.slice at' ps.length ct, u4], .slice at' ps.length ct, u4, .slice ap ps.length cp, .int .i64 ((ps.length : Int)), .slice aq ps.length cq, .int .i64 ((ps.length : Int)), .bool false, .bool false, .slice ap ps.length cp, .slice at' ps.length ct, .bool true, .bool false, .bool false, .bool false, .slice ac bs.length cc, .bool true, .bool false, .bool false, .bool false, .slice a0 bs.length cap0, .bool true, .slice a0 bs.length cap0, .string ⟨bs.toArray⟩, .slice ac bs.length cc, .string ⟨bs.toArray⟩, .bool true, .bool false, .bool false, undef, undef, undef, undef, undef, undef, undef, undef, undef, undef, undef, undef, undef, undef, undef, undef, undef, undef, undef, undef, undef, undef, undef, undef, undef, undef, undef, undef, undef, undef, undef, undef, undef, undef, undef, undef, undef, undef, undef, undef, undef, undef, undef, undef], defers := [] } (by kernel_rfl) ?_
    have hbb := nx hb34 (nx hb39 hb44)
    have hBe := nx hBa hbb
    have hqe : ∀ i, i < ps.length → ∃ b off, aq = some ⟨b, off, none⟩ ∧ w44.cell? ⟨b, off + i, none⟩ = some (.int .i64 (g i)) := fun i h =>
      let ⟨b, off, e, hc⟩ := hqa i h
      ⟨b, off, e, cell_later hbb hc⟩
    clear hqa hbb hBa h0 hC hP hT hTa hb34 hb39 hb44
    generalize hWE : w44 = wE at *
    clear hWE
    go_wp2
    go_loopw [8] (fun i wr => ∃ k : Nat, k ≤ ps.length ∧ i = .int .i64 (k : Int) ∧ Below wE.heap.size wE wr) (fun i _ => ps.length - (intOf i).toNat)
    case atStart => exact ⟨0, Nat.zero_le _, rfl, Below.refl _ _⟩
    case round =>
      obtain ⟨k, hk, rfl, hbr⟩ := hrel
      by_cases hlt : k < ps.length
      · obtain ⟨b, off, rfl, hc⟩ := hqe k hlt
        have hck := cell_later hbr hc
        clear hc
        by_cases hz : k = 0
        · subst hz
          rw [hg0, Nat.add_zero] at hck
          clear hqe hgs hgb hg0
          go_wp2_with fail
          go_quiet (fail)
          go_wp2
          go_roundw
          case rel => exact ⟨1, by omega, by go_num, below_drewN hbr nq⟩
          case measure => simp [intOf]; omega
        · obtain ⟨b', off', e, hc'⟩ := hqe (k - 1) (by omega)
          cases e
          have hck' := cell_later hbr hc'
          have hck2 : wr.cell? ⟨b, off + ((k : Int) - 1).toNat, none⟩ = some (.int .i64 (g (k - 1))) := by rw [show ((k : Int) - 1).toNat = k - 1 by omega]; exact hck'
          have hst := hgs (k - 1) (by omega)
          rw [show k - 1 + 1 = k by omega] at hst
          have hbd := hgb (k - 1) (by omega)
          have hbk := hgb k hlt
          generalize g k = y at *
          generalize g (k - 1) = x at *
          clear hqe hgs hgb hg0 hc'
          have hz1 : ((k : Int) == 0) = false := by simp; omega
          have hz2 : decide ((0 : Int) < (k : Int)) = true := by simp; omega
          have hz5 : decide (0 < k) = true := by simp; omega
          have hz6 : 0 < k := by omega
          have hz7 : (0 : Int) < (k : Int) := by omega
          obtain ⟨hst1, hst2⟩ := hst
          have hz3 : decide (y ≤ x) = false := by simp; omega
          have hz4 : decide (x + 4 < y) = false := by simp; omega
          go_wp2_with fail
          go_quiet (fail)
          go_wp2
          refine ⟨⟨k + 1, by omega, by go_num, below_drewN hbr nq⟩, ?_⟩
          simp [intOf]
          omega
      · go_wp2
        go_ret
        exact ⟨rfl, nx hBe hbr⟩
  · refine Reg.take (fun _ _ _ _ _ h => h) 0 _ 26 (.slice ap ps.length cp) rfl (by kernel_rfl) (by kernel_rfl) (by kernel_rfl) rfl (by kernel_rfl) (by kernel_rfl) (fun _ _ => by kernel_rfl) ?_
    refine Reg.take (fun _ _ _ _ _ h => h) 1 _ 27 (.int .i64 ((ps.length : Int))) rfl (by kernel_rfl) (by kernel_rfl) (by kernel_rfl) rfl (by kernel_rfl) (by kernel_rfl) (fun _ _ => by kernel_rfl) ?_
    refine Reg.take (fun _ _ _ _ _ h => h) 2 _ 28 (.slice aq ps.length cq) rfl (by kernel_rfl) (by kernel_rfl) (by kernel_rfl) rfl (by kernel_rfl) (by kernel_rfl) (fun _ _ => by kernel_rfl) ?_
    refine Reg.take (fun _ _ _ _ _ h => h) 3 _ 29 (.int .i64 ((ps.length : Int))) rfl (by kernel_rfl) (by kernel_rfl) (by kernel_rfl) rfl (by kernel_rfl) (by kernel_rfl) (fun _ _ => by kernel_rfl) ?_
    refine Reg.take (fun _ _ _ _ _ h => h) 4 _ 30 (.bool false) rfl (by kernel_rfl) (by kernel_rfl) (by kernel_rfl) rfl (by kernel_rfl) (by kernel_rfl) (fun _ _ => Reg.neI (k := .i64) (m := (ps.length : Int)) rfl (by kernel_rfl) (by kernel_rfl)) ?_
    refine Reg.take (fun _ _ _ _ _ h => h) 5 _ 31 (.bool false) rfl (by kernel_rfl) (by kernel_rfl) (by kernel_rfl) rfl (by kernel_rfl) (by kernel_rfl) (fun _ _ => by kernel_rfl) ?_
    refine Reg.take (fun _ _ _ _ _ h => h) 6 _ 32 (.slice ap ps.length cp) rfl (by kernel_rfl) (by kernel_rfl) (by kernel_rfl) rfl (by kernel_rfl) (by kernel_rfl) (fun _ _ => by kernel_rfl) ?_
    refine Reg.take (fun _ _ _ _ _ h => h) 7 _ 33 (.slice at' ps.length ct) rfl (by kernel_rfl) (by kernel_rfl) (by kernel_rfl) rfl (by kernel_rfl) (by kernel_rfl) (fun _ _ => by kernel_rfl) ?_
    have hcall := same_any ap at' cp ct ps ps (by omega) wa hP hT
    rw [decide_eq_true (rfl : ps = ps)] at hcall
    refine Reg.call 8 _ 34 11 _ _ #[.slice ap ps.length cp, .slice at' ps.length ct] rfl (by kernel_rfl) rfl (by kernel_rfl) (by kernel_rfl) rfl (by kernel_rfl) (by kernel_rfl) hcall ?_
    clear hcall
    rintro e w34 ⟨rfl, hb34⟩
    refine ⟨_, w34.heap.size, rfl, hb34.size, hb34, ?_⟩
    replace hP := hP.later hb34
    replace hT := hT.later hb34
    replace hC := hC.later hb34
    replace h0 := h0.later hb34
    replace hTa := hTa.later hb34
    refine Reg.take (fun _ _ _ _ _ h => h) 9 _ 35 (.bool false) rfl (by kernel_rfl) (by kernel_rfl) (by kernel_rfl) rfl (by kernel_rfl) (by kernel_rfl) (fun _ _ => by kernel_rfl) ?_
    refine Reg.take (fun _ _ _ _ _ h => h) 10 _ 36 (.bool false) rfl (by kernel_rfl) (by kernel_rfl) (by kernel_rfl) rfl (by kernel_rfl) (by kernel_rfl) (fun _ _ => by kernel_rfl) ?_
    refine Reg.take (fun _ _ _ _ _ h => h) 11 _ 37 (.bool false) rfl (by kernel_rfl) (by kernel_rfl) (by kernel_rfl) rfl (by kernel_rfl) (by kernel_rfl) (fun _ _ => by kernel_rfl) ?_
    refine Reg.take (fun _ _ _ _ _ h => h) 12 _ 38 (.slice ac cs.length cc) rfl (by kernel_rfl) (by kernel_rfl) (by kernel_rfl) rfl (by kernel_rfl) (by kernel_rfl) (fun _ _ => by kernel_rfl) ?_
    have hcall := good_any ac cc cs (by omega) hcc hnc w34 hTa hC
    rw [HGC.out] at hcall
    refine Reg.call 13 _ 39 12 _ _ #[.slice ac cs.length cc] rfl (by kernel_rfl) rfl (by kernel_rfl) (by kernel_rfl) rfl (by kernel_rfl) (by kernel_rfl) hcall ?_
    clear hcall
    rintro e w39 ⟨rfl, hb39⟩
    refine ⟨_, w39.heap.size, rfl, hb39.size, hb39, ?_⟩
    replace hP := hP.later hb39
    replace hT := hT.later hb39
    replace hC := hC.later hb39
    replace h0 := h0.later hb39
    replace hTa := hTa.later hb39
    refine Reg.take (fun _ _ _ _ _ h => h) 14 _ 40 (.bool false) rfl (by kernel_rfl) (by kernel_rfl) (by kernel_rfl) rfl (by kernel_rfl) (by kernel_rfl) (fun _ _ => by kernel_rfl) ?_
    refine Reg.take (fun _ _ _ _ _ h => h) 15 _ 41 (.bool false) rfl (by kernel_rfl) (by kernel_rfl) (by kernel_rfl) rfl (by kernel_rfl) (by kernel_rfl) (fun _ _ => by kernel_rfl) ?_
    refine Reg.take (fun _ _ _ _ _ h => h) 16 _ 42 (.bool false) rfl (by kernel_rfl) (by kernel_rfl) (by kernel_rfl) rfl (by kernel_rfl) (by kernel_rfl) (fun _ _ => by kernel_rfl) ?_
    refine Reg.take (fun _ _ _ _ _ h => h) 17 _ 43 (.slice a0 bs.length cap0) rfl (by kernel_rfl) (by kernel_rfl) (by kernel_rfl) rfl (by kernel_rfl) (by kernel_rfl) (fun _ _ => by kernel_rfl) ?_
    refine Reg.take (fun _ _ _ _ _ h => h) 19 _ 45 (.slice a0 bs.length cap0) rfl (by kernel_rfl) (by kernel_rfl) (by kernel_rfl) rfl (by kernel_rfl) (by kernel_rfl) (fun _ _ => by kernel_rfl) ?_
    refine Reg.take (fun _ _ _ _ _ h => h) 20 _ 46 (.string ⟨bs.toArray⟩) rfl (by kernel_rfl) (by kernel_rfl) (by kernel_rfl) rfl (by kernel_rfl) (by kernel_rfl) (fun w' hb => Reg.cvt rfl (u := .slice a0 bs.length cap0) (by kernel_rfl) (conv_any w' a0 bs cap0 (h0.later hb))) ?_
    refine Reg.take (fun _ _ _ _ _ h => h) 21 _ 47 (.slice ac cs.length cc) rfl (by kernel_rfl) (by kernel_rfl) (by kernel_rfl) rfl (by kernel_rfl) (by kernel_rfl) (fun _ _ => by kernel_rfl) ?_
    refine Reg.take (fun _ _ _ _ _ h => h) 22 _ 48 (.string ⟨cs.toArray⟩) rfl (by kernel_rfl) (by kernel_rfl) (by kernel_rfl) rfl (by kernel_rfl) (by kernel_rfl) (fun w' hb => Reg.cvt rfl (u := .slice ac cs.length cc) (by kernel_rfl) (conv_any w' ac cs cc (hC.later hb))) ?_
    refine Reg.take (fun _ _ _ _ _ h => h) 23 _ 49 (.bool false) rfl (by kernel_rfl) (by kernel_rfl) (by kernel_rfl) rfl (by kernel_rfl) (by kernel_rfl) (fun _ _ => Reg.eqSf (s := ⟨bs.toArray⟩) (s' := ⟨cs.toArray⟩) rfl (by kernel_rfl) (by kernel_rfl) (by rw [ByteArray.toList_mk, ByteArray.toList_mk]; exact hne)) ?_
    have hcall := good_any a0 cap0 bs (by omega) hcap hn0 w39 hTa h0
    rw [hG] at hcall
    refine Reg.call 18 _ 44 12 _ _ #[.slice a0 bs.length cap0] rfl (by kernel_rfl) rfl (by kernel_rfl) (by kernel_rfl) rfl (by kernel_rfl) (by kernel_rfl) hcall ?_
    clear hcall
    rintro e w44 ⟨rfl, hb44⟩
    refine ⟨_, w44.heap.size, rfl, hb44.size, hb44, ?_⟩
    replace hP := hP.later hb44
    replace hT := hT.later hb44
    replace hC := hC.later hb44
    replace h0 := h0.later hb44
    replace hTa := hTa.later hb44
    refine Reg.take (fun _ _ _ _ _ h => h) 24 _ 50 (.bool false) rfl (by kernel_rfl) (by kernel_rfl) (by kernel_rfl) rfl (by kernel_rfl) (by kernel_rfl) (fun _ _ => by kernel_rfl) ?_
    refine Reg.take (fun _ _ _ _ _ h => h) 25 _ 51 (.bool false) rfl (by kernel_rfl) (by kernel_rfl) (by kernel_rfl) rfl (by kernel_rfl) (by kernel_rfl) (fun _ _ => by kernel_rfl) ?_
    refine Reg.done_at (by kernel_rfl) { tmps := #[.slice a0 bs.length cap0, undef, .bool false, .slice ap ps.length cp, .slice aq ps.length cq, .slice ac cs.length cc, .slice at' ps.length ct, u4, undef, .bool true, .bool false, .slice a0 bs.length cap0, .int .i64 (bs.length : Int), .bool false, .tuple #[.slice ap ps.length cp, .slice aq ps.length cq], .slice a0 bs.length cap0, .tuple #[.slice ap ps.length cp, .slice aq ps.length cq], .slice ap ps.length cp, .slice aq ps.length cq, .slice ap ps.length cp, .slice ac cs.length cc, .tuple #[.slice at' ps.length ct, u4], .slice ac cs.length cc, .tuple #[.slice at' ps.length ct, u4], .slice at' ps.length ct, u4, .slice ap ps.length cp, .int .i64 ((ps.length : Int)), .slice aq ps.length cq, .int .i64 ((ps.length : Int)), .bool false, .bool false, .slice ap ps.length cp, .slice at' ps.length ct, .bool true, .bool false, .bool false, .bool false, .slice ac cs.length cc, .bool true, .bool false, .bool false, .bool false, .slice a0 bs.length cap0, .bool false, .slice a0 bs.length cap0, .string ⟨bs.toArray⟩, .slice ac cs.length cc, .string ⟨cs.toArray⟩, .bool false, .bool false, .bool false, undef, undef, undef, undef, undef, undef, undef, undef, undef, undef, undef, undef, undef, undef, undef, undef, undef, undef, undef, undef, undef, undef, undef, undef, undef, undef, undef, undef, undef, undef, undef, undef, undef, undef, undef, undef, undef, undef, undef, undef, undef, undef, undef, undef], defers := [] } (by kernel_rfl) ?_
    have hbb := nx hb34 (nx hb39 hb44)
    have hBe := nx hBa hbb
    have hqe : ∀ i, i < ps.length → ∃ b off, aq = some ⟨b, off, none⟩ ∧ w44.cell? ⟨b, off + i, none⟩ = some (.int .i64 (g i)) := fun i h =>
      let ⟨b, off, e, hc⟩ := hqa i h
      ⟨b, off, e, cell_later hbb hc⟩
    clear hqa hbb hBa h0 hC hP hT hTa hb34 hb39 hb44
    generalize hWE : w44 = wE at *
    clear hWE
    go_wp2
    go_loopw [8] (fun i wr => ∃ k : Nat, k ≤ ps.length ∧ i = .int .i64 (k : Int) ∧ Below wE.heap.size wE wr) (fun i _ => ps.length - (intOf i).toNat)
    case atStart => exact ⟨0, Nat.zero_le _, rfl, Below.refl _ _⟩
    case round =>
      obtain ⟨k, hk, rfl, hbr⟩ := hrel
      by_cases hlt : k < ps.length
      · obtain ⟨b, off, rfl, hc⟩ := hqe k hlt
        have hck := cell_later hbr hc
        clear hc
        by_cases hz : k = 0
        · subst hz
          rw [hg0, Nat.add_zero] at hck
          clear hqe hgs hgb hg0
          go_wp2_with fail
          go_quiet (fail)
          go_wp2
          go_roundw
          case rel => exact ⟨1, by omega, by go_num, below_drewN hbr nq⟩
          case measure => simp [intOf]; omega
        · obtain ⟨b', off', e, hc'⟩ := hqe (k - 1) (by omega)
          cases e
          have hck' := cell_later hbr hc'
          have hck2 : wr.cell? ⟨b, off + ((k : Int) - 1).toNat, none⟩ = some (.int .i64 (g (k - 1))) := by rw [show ((k : Int) - 1).toNat = k - 1 by omega]; exact hck'
          have hst := hgs (k - 1) (by omega)
          rw [show k - 1 + 1 = k by omega] at hst
          have hbd := hgb (k - 1) (by omega)
          have hbk := hgb k hlt
          generalize g k = y at *
          generalize g (k - 1) = x at *
          clear hqe hgs hgb hg0 hc'
          have hz1 : ((k : Int) == 0) = false := by simp; omega
          have hz2 : decide ((0 : Int) < (k : Int)) = true := by simp; omega
          have hz5 : decide (0 < k) = true := by simp; omega
          have hz6 : 0 < k := by omega
          have hz7 : (0 : Int) < (k : Int) := by omega
          obtain ⟨hst1, hst2⟩ := hst
          have hz3 : decide (y ≤ x) = false := by simp; omega
          have hz4 : decide (x + 4 < y) = false := by simp; omega
          go_wp2_with fail
          go_quiet (fail)
          go_wp2
          refine ⟨⟨k + 1, by omega, by go_num, below_drewN hbr nq⟩, ?_⟩
          simp [intOf]
          omega
      · go_wp2
        go_ret
        exact ⟨rfl, nx hBe hbr⟩
end Go.Proofs.YtncmepcgafimjaaDoor
