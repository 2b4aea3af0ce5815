/- ClassesTell: its walk. -/
import Derived.Test.YtbkcbclloemajaaRcuts
import Derived.Test.YtbkcbclloemajaaKnown
namespace Go.Proofs.Ytbkcbclloemajaa
open Go.RowKit Go.Shelf

theorem few_each {ls : List L3} (h : fewB ls = true) : (∀ p ∈ ls, p.2.2.length ≤ 20) ∧ ls.length ≤ 70 := by
  unfold fewB at h
  simp only [Bool.and_eq_true, decide_eq_true_eq] at h
  exact ⟨fun p hp => by simpa using List.all_eq_true.1 h.1 p hp, h.2⟩
theorem Reg.pk {w : World} {ρ : Operand → Value} {o : Oper} {c x y : Operand} {b : Bool} {v : Value} (hop : o.op = .pick c x y) (hc : ρ c = .bool b) (hx : (if b then ρ x else ρ y) = v) : (execOp ρ o).run Try.prog w = .ok (.value v) w := by
  obtain ⟨dst, op, type, pos, after, guard⟩ := o
  simp only at hop
  subst hop
  subst hx
  simp only [execOp, hc]
  cases b <;> rfl
theorem Reg.neI {w : World} {ρ : Operand → Value} {o : Oper} {x y : Operand} {m n : Int} {b : Bool} (hop : o.op = .binOp .neq 3 x y 3) (hx : ρ x = .int .i64 m) (hy : ρ y = .int .i64 n) (h : (m != n) = b) : (execOp ρ o).run Try.prog w = .ok (.value (.bool b)) w := by
  obtain ⟨dst, op, type, pos, after, guard⟩ := o
  simp only at hop
  subst hop
  subst h
  simp only [execOp, hx, hy]
  kernel_rfl
theorem Reg.neB {w : World} {ρ : Operand → Value} {o : Oper} {x y : Operand} {p : Bool} (hop : o.op = .binOp .neq 4 x y 4) (hx : ρ x = .bool p) (hy : ρ y = .bool p) : (execOp ρ o).run Try.prog w = .ok (.value (.bool false)) w := by
  obtain ⟨dst, op, type, pos, after, guard⟩ := o
  simp only at hop
  subst hop
  simp only [execOp, hx, hy]
  cases p <;> kernel_rfl
/-- What In tells of class k, set j. -/
noncomputable def inL (L : List L3) (j k : Int) : Bool := decide (0 ≤ j) && decide (0 ≤ k) && decide (k < L.length) && ((msL L)[j.toNat]?.getD 0).testBit k.toNat
theorem tell_at {L : List L3} (h64 : L.length ≤ 64) {p : Int} (h0 : 0 ≤ p) (h1 : p ≤ 1114111) {k : Nat} (hk : k = (msL L).idxOf (mkL L p)) :
    k < (msL L).length ∧ ofL L p = (k : Int) ∧ S.hB (setL L (k : Int)) p = true ∧ ∀ j (hj : j < L.length), inL L (k : Int) (j : Int) = S.hB L[j].2.2 p := by
  have hmem : mkL L p ∈ msL L := (msL_mem h64 _).2 ⟨p, h0, h1, rfl⟩
  have hlt := List.idxOf_lt_length_of_mem hmem
  have hat := List.getElem_idxOf hlt
  subst hk
  refine ⟨hlt, by unfold ofL; rw [if_pos ⟨h0, h1⟩], ?_, fun j hj => ?_⟩
  · rw [S.hB_iff]
    exact (setL_hs h64 hlt p).2 ⟨h0, h1, hat.symm⟩
  · unfold inL
    rw [Int.toNat_natCast, Int.toNat_natCast, List.getElem?_eq_getElem hlt, Option.getD_some, hat]
    unfold mkL
    rw [mk_bit, TOf_at L j hj]
    simp [hj]
theorem tell_out (L : List L3) (h64 : L.length ≤ 64) : setL L ((msL L).length : Int) = [] ∧ setL L (-1) = [] ∧ inL L ((msL L).length : Int) 0 = false ∧ inL L 0 (-1) = false ∧ inL L 0 64 = false := by
  refine ⟨?_, ?_, ?_, ?_, ?_⟩
  · simp [setL]
  · simp [setL]
  · simp [inL]
  · simp [inL]
  · have : ¬ (64 : Int) < (L.length : Int) := by omega
    simp [inL, this]

set_option maxRecDepth 100000 in
set_option maxHeartbeats 8000000 in
theorem ctell_any (sao : Option Addr) (cap : Nat) (ls : List L3) (hcap : ls.length ≤ cap) (hl : ls.length ≤ 9223372036854775807) (r : Int) (w : World) (hrd : RdS w sao ls) :
    Calls Try.prog 3 #[.slice sao ls.length cap, .int .i32 r] w fun e w' => e = .returned (.bool true) ∧ Below w.heap.size w w' := by
  go_enter Try.func3, Try.ntmps3
  go_wp2_with fail
  refine (known_any w).mono ?_
  rintro e w1 ⟨rfl, hb1⟩
  go_wp2_with fail
  refine (few_any sao cap ls hl w1 (hrd.later hb1)).mono ?_
  rintro e w2 ⟨rfl, rfl⟩
  cases hf : fewB ls with
  | false =>
    go_wp2_with fail
    go_ret
    exact ⟨rfl, hb1⟩
  | true =>
    obtain ⟨h20, h70⟩ := few_each hf
    clear hf
    obtain ⟨L, hL⟩ : ∃ L, ls.take 64 = L := ⟨_, rfl⟩
    have hmin : (min (ls.length : Int) 64) = ((L.length : Nat) : Int) := by rw [← hL, List.length_take]; omega
    have hn : L.length ≤ 64 := by rw [← hL, List.length_take]; omega
    have hnl : L.length ≤ ls.length := by rw [← hL, List.length_take]; omega
    have HLS : Hid (∀ i (h : i < L.length), L[i] = ls[i]'(by omega)) := hide (fun i h => by subst hL; simp)
    go_wp2_with fail
    refine (cut_tel sao cap ls hcap (fun p hp => by have := h20 p hp; omega) w2 (hrd.later hb1)).mono ?_
    rintro e w3 ⟨rfl, hT3, hb3⟩
    rw [hL] at hT3
    have hB3 := nx hb1 hb3
    generalize hpc : w2.heap.size = pc at hT3 ⊢
    clear hpc hb1 hb3
    go_wp2_with fail
    refine (rcut_any sao cap ls L hL h20 h70 w3 (hrd.later hB3)).mono ?_
    rintro e w4 ⟨fo, cf, ko, ck, fs, rfl, hf4, hk4, hP, hfl, hb4⟩
    have hT4 := hT3.later hb4
    have hB4 := nx hB3 hb4
    have hrd4 := hrd.later hB4
    clear hT3 hB3 hb4 hrd hL
    have HOUT := hide (tell_out L hn)
    have hlen := fun w' (h : Tel w' pc L) => tel_len h
    have hset := fun w' (h : Tel w' pc L) j => tel_set h j
    have hinn : ∀ w', Tel w' pc L → ∀ j k, Calls Try.prog 18 #[.pointer (some ⟨pc, 0, none⟩), .int .i64 j, .int .i64 k] w' (fun e w2 => e = .returned (.bool (inL L j k)) ∧ w2 = w') := fun w' h j k => tel_in h j k
    have HAT : Hid (∀ i (h : i < fs.length), ∃ h2 : i < (clF L fs).length, 0 ≤ fs[i] ∧ fs[i] ≤ 1114111 ∧ (clF L fs)[i] = (msL L).idxOf (mkL L fs[i])) := hide (fun i h => ⟨by simp [clF]; exact h, (hP.low _ (List.getElem_mem h)).1, (hP.low _ (List.getElem_mem h)).2, by simp [clF]⟩)
    have HSL : Hid (∀ j, (setL L j).length ≤ 1000000) := hide (setL_len L hn hT4.2.1)
    have hks : (clF L fs).length = fs.length := by simp [clF]
    have hcls := rclass_any fo ko cf ck fs (clF L fs) (by omega) hks r
    rw [hks] at hcls
    have HCL : Hid (∀ q, Cls fs (clF L fs) r q → q = ofL L r) := hide (fun q h => cls_ofL hP h)
    have HMS : Hid (∀ (p : Int) (k : Nat), 0 ≤ p → p ≤ 1114111 → k = (msL L).idxOf (mkL L p) → k < (msL L).length ∧ ofL L p = (k : Int) ∧ S.hB (setL L (k : Int)) p = true ∧ ∀ j (hj : j < L.length), inL L (k : Int) (j : Int) = S.hB L[j].2.2 p) := hide (fun p k h0 h1 hk => tell_at hn h0 h1 hk)
    obtain ⟨nm, hnm⟩ : ∃ nm, (msL L).length = nm := ⟨_, rfl⟩
    simp only [hnm] at hlen
    rw [hnm] at HOUT
    have HNM := hide hnm
    rw [hnm]
    clear hnm hks hP
    go_wp2_with fail
    refine (hlen w4 hT4).mono ?_
    rintro e w5 ⟨rfl, rfl⟩
    go_wp2_with fail
    refine (tel_of hT4 r).mono ?_
    rintro e w6 ⟨rfl, hb6⟩
    replace hT4 := hT4.later hb6
    replace hB4 := nx hB4 hb6
    replace hrd4 := hrd4.later hb6
    replace hf4 := hf4.later hb6
    replace hk4 := hk4.later hb6
    go_wp2_with fail
    refine (hcls w6 hf4 hk4).mono ?_
    rintro e w7 ⟨⟨q, rfl, hq⟩, rfl⟩
    obtain rfl := HCL.out q hq
    clear hq HCL hcls hb6
    generalize ofL L r = orr at *
    have hoo : (orr != orr) = false := by simp
    go_wp2_with fail
    refine (tel_sets hT4).mono ?_
    rintro e w8 ⟨rfl, rfl⟩
    have hll : (((L.length : Nat) : Int) != ((L.length : Nat) : Int)) = false := by simp
    obtain ⟨n, hnn⟩ : ∃ n, L.length = n := ⟨_, rfl⟩
    have HNN := hide hnn
    rw [hnn] at hmin hn hnl hll ⊢
    clear hnn
    generalize w8 = wa at *
    go_wp2
    go_loopw [9] (fun u wr => ∃ i : Nat, u = .int .i64 (i : Int) ∧ i ≤ fs.length ∧ Below wa.heap.size wa wr) (fun u _ => fs.length - (intOf u).toNat)
    case atStart => exact ⟨0, rfl, Nat.zero_le _, Below.refl _ _⟩
    case round =>
      obtain ⟨i, rfl, hi, hB⟩ := hrel
      by_cases hlt : i < fs.length
      · obtain ⟨b, off, rfl, hp⟩ := (hf4.later hB) i hlt
        obtain ⟨hlk, h0, h1, hke⟩ := HAT.out i hlt
        obtain ⟨b3, off3, rfl, hkc⟩ := (hk4.later hB) i hlk
        have hMS := HMS.out fs[i] (clF L fs)[i] h0 h1 hke
        clear hke h0 h1
        generalize fs[i] = p at *
        generalize (clF L fs)[i] = kk at *
        obtain ⟨hkn, hofe, hsb, hin⟩ := hMS
        have HIN := hide hin
        have hT : Tel wr.drew pc L := (hT4.later hB).later ((Below.refl _ wr).drew)
        have hof := tel_of hT p
        rw [hofe] at hof
        have hsl := HSL.out (kk : Int)
        have hsetk := fun w' h => hset w' h (kk : Int)
        have hhs : ∀ (a : Option Addr) (c : Nat) (w' : World), RdR w' a (setL L (kk : Int)) → Calls Try.prog 16 #[.slice a (setL L (kk : Int)).length c, .int .i32 p] w' (fun e w2 => e = .returned (.bool true) ∧ Below w'.heap.size w' w2) := fun a c w' h => by
          have := has_any a c (setL L (kk : Int)) p hsl w' h
          rw [hsb] at this
          exact this
        generalize setL L (kk : Int) = sl at *
        clear hofe hsb hin hkn
        rw [← Nat.mul_one i] at hp
        go_wp2_with fail
        refine Reg.start (B := wr.heap.size) (by kernel_rfl) ?_
        refine Reg.take (fun _ _ _ _ _ h => h) 0 _ 57 (.pointer (some ⟨pc, 0, none⟩)) rfl (by kernel_rfl) (by kernel_rfl) (by kernel_rfl) rfl (by kernel_rfl) (by kernel_rfl) (fun _ _ => Reg.mv rfl rfl) ?_
        refine Reg.take (fun _ _ _ _ _ h => h) 1 _ 58 (.slice (some ⟨b, off, none⟩) fs.length cf) rfl (by kernel_rfl) (by kernel_rfl) (by kernel_rfl) rfl (by kernel_rfl) (by kernel_rfl) (fun _ _ => Reg.mv rfl rfl) ?_
        refine Reg.take (fun _ _ _ _ _ h => h) 2 _ 59 (.int .i64 (i : Int)) rfl (by kernel_rfl) (by kernel_rfl) (by kernel_rfl) rfl (by kernel_rfl) (by kernel_rfl) (fun _ _ => Reg.mv rfl rfl) ?_
        refine Reg.take (fun _ _ _ _ _ h => h) 3 _ 60 (.pointer (some ⟨b, off + i * 1, none⟩)) rfl (by kernel_rfl) (by kernel_rfl) (by kernel_rfl) rfl (by kernel_rfl) (by kernel_rfl) (fun w' _ => Reg.ix rfl rfl rfl hlt (by kernel_rfl) (elemSize27 w')) ?_
        refine Reg.take (fun _ _ _ _ _ h => h) 4 _ 61 (.int .i32 p) rfl (by kernel_rfl) (by kernel_rfl) (by kernel_rfl) rfl (by kernel_rfl) (by kernel_rfl) (fun w' hw => Reg.ld1 rfl rfl (cell_later (w := wr.drew) hw hp) (Try.isAgg21 _)) ?_
        refine Reg.take (fun _ _ _ _ _ h => h) 6 _ 63 (.int .i64 (kk : Int)) rfl (by kernel_rfl) (by kernel_rfl) (by kernel_rfl) rfl (by kernel_rfl) (by kernel_rfl) (fun _ _ => Reg.mv rfl rfl) ?_
        refine Reg.call 5 _ 62 13 _ _ #[.pointer (some ⟨pc, 0, none⟩), .int .i32 p] rfl (by kernel_rfl) rfl (by kernel_rfl) (by kernel_rfl) rfl (by kernel_rfl) (by kernel_rfl) (hof) ?_
        rintro e w20 ⟨rfl, hb20⟩
        refine ⟨_, w20.heap.size, rfl, hb20.size, hb20, ?_⟩
        refine Reg.take (fun _ _ _ _ _ h => h) 7 _ 64 (.bool false) rfl (by kernel_rfl) (by kernel_rfl) (by kernel_rfl) rfl (by kernel_rfl) (by kernel_rfl) (fun _ _ => Reg.neI rfl rfl rfl (by simp)) ?_
        refine Reg.take (fun _ _ _ _ _ h => h) 8 _ 65 (.bool false) rfl (by kernel_rfl) (by kernel_rfl) (by kernel_rfl) rfl (by kernel_rfl) (by kernel_rfl) (fun _ _ => Reg.mv rfl rfl) ?_
        refine Reg.take (fun _ _ _ _ _ h => h) 9 _ 66 (.pointer (some ⟨pc, 0, none⟩)) rfl (by kernel_rfl) (by kernel_rfl) (by kernel_rfl) rfl (by kernel_rfl) (by kernel_rfl) (fun _ _ => Reg.mv rfl rfl) ?_
        refine Reg.take (fun _ _ _ _ _ h => h) 10 _ 67 (.int .i64 (kk : Int)) rfl (by kernel_rfl) (by kernel_rfl) (by kernel_rfl) rfl (by kernel_rfl) (by kernel_rfl) (fun _ _ => Reg.mv rfl rfl) ?_
        refine Reg.take (fun _ _ _ _ _ h => h) 12 _ 69 (.slice (some ⟨b, off, none⟩) fs.length cf) rfl (by kernel_rfl) (by kernel_rfl) (by kernel_rfl) rfl (by kernel_rfl) (by kernel_rfl) (fun _ _ => Reg.mv rfl rfl) ?_
        refine Reg.take (fun _ _ _ _ _ h => h) 13 _ 70 (.int .i64 (i : Int)) rfl (by kernel_rfl) (by kernel_rfl) (by kernel_rfl) rfl (by kernel_rfl) (by kernel_rfl) (fun _ _ => Reg.mv rfl rfl) ?_
        refine Reg.take (fun _ _ _ _ _ h => h) 14 _ 71 (.pointer (some ⟨b, off + i * 1, none⟩)) rfl (by kernel_rfl) (by kernel_rfl) (by kernel_rfl) rfl (by kernel_rfl) (by kernel_rfl) (fun w' _ => Reg.ix rfl rfl rfl hlt (by kernel_rfl) (elemSize27 w')) ?_
        refine Reg.take (fun _ _ _ _ _ h => h) 15 _ 72 (.int .i32 p) rfl (by kernel_rfl) (by kernel_rfl) (by kernel_rfl) rfl (by kernel_rfl) (by kernel_rfl) (fun w' hw => Reg.ld1 rfl rfl (cell_later (w := w20) hw (cell_later (w := wr.drew) hb20 hp)) (Try.isAgg21 _)) ?_
        refine Reg.call 11 _ 68 17 _ _ #[.pointer (some ⟨pc, 0, none⟩), .int .i64 (kk : Int)] rfl (by kernel_rfl) rfl (by kernel_rfl) (by kernel_rfl) rfl (by kernel_rfl) (by kernel_rfl) (hsetk w20 (Tel.later (w := wr.drew) hT hb20)) ?_
        rintro e w21 ⟨a21, c21, rfl, hr21, _, hb21⟩
        refine ⟨_, w21.heap.size, rfl, hb21.size, hb21, ?_⟩
        refine Reg.call 16 _ 73 16 _ _ #[.slice a21 sl.length c21, .int .i32 p] rfl (by kernel_rfl) rfl (by kernel_rfl) (by kernel_rfl) rfl (by kernel_rfl) (by kernel_rfl) (hhs a21 c21 w21 hr21) ?_
        rintro e w22 ⟨rfl, hb22⟩
        refine ⟨_, w22.heap.size, rfl, hb22.size, hb22, ?_⟩
        refine Reg.take (fun _ _ _ _ _ h => h) 17 _ 74 (.bool false) rfl (by kernel_rfl) (by kernel_rfl) (by kernel_rfl) rfl (by kernel_rfl) (by kernel_rfl) (fun _ _ => by kernel_rfl) ?_
        refine Reg.take (fun _ _ _ _ _ h => h) 18 _ 75 (.bool false) rfl (by kernel_rfl) (by kernel_rfl) (by kernel_rfl) rfl (by kernel_rfl) (by kernel_rfl) (fun _ _ => Reg.pk (b := false) rfl rfl rfl) ?_
        refine Reg.done (by kernel_rfl) ?_
        simp only [Reg.ov, Act.put, List.setIfInBounds_toArray, List.set_cons_succ, List.set_cons_zero]
        have hb19 := nx ((Below.refl _ wr).drew) (nx (nx hb20 hb21) hb22)
        have hB22 := nx hB hb19
        have hp22 := cell_later hb19 hp
        clear hof hsetk hhs hp hkc hT hB hr21 hb19 hb20 hb21 hb22
        generalize w22 = wb at *
        go_wp2
        go_loopw [11] (fun u wr => ∃ j : Nat, u = .int .i64 (j : Int) ∧ j ≤ n ∧ Below wb.heap.size wb wr) (fun u _ => n - (intOf u).toNat)
        case atStart => exact ⟨0, rfl, Nat.zero_le _, Below.refl _ _⟩
        case round =>
          obtain ⟨j, rfl, hj, hBj⟩ := hrel
          by_cases hjl : j < n
          · have hj2 : j < ls.length := by omega
            have hjL : j < L.length := by rw [HNN.out]; exact hjl
            obtain ⟨b2, off2, rfl, hd, hrd2⟩ := (hrd4.later (nx hB22 hBj)) j hj2
            have hx20 := h20 _ (List.getElem_mem hj2)
            have HIJ : Hid (inL L (kk : Int) (j : Int) = S.hB ls[j].2.2 p) := hide (by rw [HIN.out j hjL, HLS.out j hjL])
            have hTj : Tel wr.drew pc L := (hT4.later (nx hB22 hBj)).later ((Below.refl _ wr).drew)
            have hinj := hinn _ hTj (kk : Int) (j : Int)
            rw [HIJ.out] at hinj
            clear HIJ
            generalize ls[j].2.2 = xs at *
            generalize ls[j].2.1 = ca at *
            generalize ls[j].1 = ax at *
            have hhas : Calls Try.prog 19 #[.slice ax xs.length ca, .int .i32 p] wr.drew (fun e W' => e = .returned (.bool (S.hB xs p)) ∧ Below wr.drew.heap.size wr.drew W') := refHas_any ax ca xs p (by omega) wr.drew hrd2
            generalize S.hB xs p = bb at *
            have hpk := cell_later hBj hp22
            rw [← Nat.mul_one j] at hd
            clear hrd2 hTj
            go_wp2_with fail
            refine Reg.start (B := wr.heap.size) (by kernel_rfl) ?_
            refine Reg.take (fun _ _ _ _ _ h => h) 0 _ 83 (.pointer (some ⟨pc, 0, none⟩)) rfl (by kernel_rfl) (by kernel_rfl) (by kernel_rfl) rfl (by kernel_rfl) (by kernel_rfl) (fun _ _ => Reg.mv rfl rfl) ?_
            refine Reg.take (fun _ _ _ _ _ h => h) 1 _ 84 (.int .i64 (kk : Int)) rfl (by kernel_rfl) (by kernel_rfl) (by kernel_rfl) rfl (by kernel_rfl) (by kernel_rfl) (fun _ _ => Reg.mv rfl rfl) ?_
            refine Reg.take (fun _ _ _ _ _ h => h) 2 _ 85 (.int .i64 (j : Int)) rfl (by kernel_rfl) (by kernel_rfl) (by kernel_rfl) rfl (by kernel_rfl) (by kernel_rfl) (fun _ _ => Reg.mv rfl rfl) ?_
            refine Reg.take (fun _ _ _ _ _ h => h) 4 _ 87 (.slice (some ⟨b2, off2, none⟩) ls.length cap) rfl (by kernel_rfl) (by kernel_rfl) (by kernel_rfl) rfl (by kernel_rfl) (by kernel_rfl) (fun _ _ => Reg.mv rfl rfl) ?_
            refine Reg.take (fun _ _ _ _ _ h => h) 5 _ 88 (.int .i64 (j : Int)) rfl (by kernel_rfl) (by kernel_rfl) (by kernel_rfl) rfl (by kernel_rfl) (by kernel_rfl) (fun _ _ => Reg.mv rfl rfl) ?_
            refine Reg.take (fun _ _ _ _ _ h => h) 6 _ 89 (.pointer (some ⟨b2, off2 + j * 1, none⟩)) rfl (by kernel_rfl) (by kernel_rfl) (by kernel_rfl) rfl (by kernel_rfl) (by kernel_rfl) (fun w' _ => Reg.ix rfl rfl rfl hj2 (by kernel_rfl) (elemSize22c w')) ?_
            refine Reg.take (fun _ _ _ _ _ h => h) 7 _ 90 (.slice ax xs.length ca) rfl (by kernel_rfl) (by kernel_rfl) (by kernel_rfl) rfl (by kernel_rfl) (by kernel_rfl) (fun w' hw => Reg.ld1 rfl rfl (cell_later (w := wr.drew) hw hd) (Try.isAgg35 _)) ?_
            refine Reg.take (fun _ _ _ _ _ h => h) 8 _ 91 (.slice (some ⟨b, off, none⟩) fs.length cf) rfl (by kernel_rfl) (by kernel_rfl) (by kernel_rfl) rfl (by kernel_rfl) (by kernel_rfl) (fun _ _ => Reg.mv rfl rfl) ?_
            refine Reg.take (fun _ _ _ _ _ h => h) 9 _ 92 (.int .i64 (i : Int)) rfl (by kernel_rfl) (by kernel_rfl) (by kernel_rfl) rfl (by kernel_rfl) (by kernel_rfl) (fun _ _ => Reg.mv rfl rfl) ?_
            refine Reg.take (fun _ _ _ _ _ h => h) 10 _ 93 (.pointer (some ⟨b, off + i * 1, none⟩)) rfl (by kernel_rfl) (by kernel_rfl) (by kernel_rfl) rfl (by kernel_rfl) (by kernel_rfl) (fun w' _ => Reg.ix rfl rfl rfl hlt (by kernel_rfl) (elemSize27 w')) ?_
            refine Reg.take (fun _ _ _ _ _ h => h) 11 _ 94 (.int .i32 p) rfl (by kernel_rfl) (by kernel_rfl) (by kernel_rfl) rfl (by kernel_rfl) (by kernel_rfl) (fun w' hw => Reg.ld1 rfl rfl (cell_later (w := wr.drew) hw hpk) (Try.isAgg21 _)) ?_
            refine Reg.call 3 _ 86 18 _ _ #[.pointer (some ⟨pc, 0, none⟩), .int .i64 (kk : Int), .int .i64 (j : Int)] rfl (by kernel_rfl) rfl (by kernel_rfl) (by kernel_rfl) rfl (by kernel_rfl) (by kernel_rfl) (hinj) ?_
            rintro e w20 ⟨rfl, rfl⟩
            refine ⟨_, _, rfl, Nat.le_refl _, Below.refl _ _, ?_⟩
            refine Reg.call 12 _ 95 19 _ _ #[.slice ax xs.length ca, .int .i32 p] rfl (by kernel_rfl) rfl (by kernel_rfl) (by kernel_rfl) rfl (by kernel_rfl) (by kernel_rfl) (hhas) ?_
            rintro e w21 ⟨rfl, hb21⟩
            refine ⟨_, w21.heap.size, rfl, hb21.size, hb21, ?_⟩
            refine Reg.take (fun _ _ _ _ _ h => h) 13 _ 96 (.bool false) rfl (by kernel_rfl) (by kernel_rfl) (by kernel_rfl) rfl (by kernel_rfl) (by kernel_rfl) (fun _ _ => Reg.neB rfl rfl rfl) ?_
            refine Reg.done (by kernel_rfl) ?_
            simp only [Reg.ov, Act.put, List.setIfInBounds_toArray, List.set_cons_succ, List.set_cons_zero]
            have hb19 := nx hBj (nx ((Below.refl _ wr).drew) hb21)
            clear hinj hhas hd hpk hBj hb21
            go_wp2
            go_roundw
            case rel => exact ⟨j + 1, by go_num, by omega, hb19⟩
            case measure => simp [intOf]; omega
          · have hge : n ≤ j := by omega
            have hB9 := nx hB22 hBj
            go_wp2
            go_roundw
            case rel => exact ⟨i + 1, by go_num, by omega, hB9⟩
            case measure => simp [intOf]; omega
      · have hge : fs.length ≤ i := by omega
        have hT := hT4.later hB
        have hBz := nx hB4 hB
        have s1 := hset wr hT (nm : Int)
        rw [HOUT.out.1] at s1
        go_wp2_with fail
        refine s1.mono ?_
        rintro e w20 ⟨a20, c20, rfl, _, _, hb20⟩
        clear s1
        have hT2 := hT.later hb20
        have s2 := hset w20 hT2 (-1)
        rw [HOUT.out.2.1] at s2
        go_wp2_with fail
        refine s2.mono ?_
        rintro e w21 ⟨a21, c21, rfl, _, _, hb21⟩
        clear s2
        have hT3 := hT2.later hb21
        have s3 := hinn w21 hT3 (nm : Int) 0
        rw [HOUT.out.2.2.1] at s3
        have s4 := hinn w21 hT3 0 (-1)
        rw [HOUT.out.2.2.2.1] at s4
        have s5 := hinn w21 hT3 0 64
        rw [HOUT.out.2.2.2.2] at s5
        go_wp2_with fail
        refine s3.mono ?_
        rintro e w22 ⟨rfl, rfl⟩
        go_wp2_with fail
        refine s4.mono ?_
        rintro e w23 ⟨rfl, rfl⟩
        go_wp2_with fail
        refine s5.mono ?_
        rintro e w24 ⟨rfl, rfl⟩
        go_wp2
        go_ret
        exact ⟨rfl, nx (nx hBz hb20) hb21⟩
end Go.Proofs.Ytbkcbclloemajaa
