/- ClassesPart: plain facts (a class's pieces never touch; counts add up to the whole code space), and its walk. -/
import Derived.Test.YtbkcbclloemajaaOrdm
import Derived.Test.YtbkcbclloemajaaFam
namespace Go.Proofs.Ytbkcbclloemajaa
section

theorem canon_begin {zs : List S.R} (hc : S.Canon zs) {r : S.R} (hr : r ∈ zs) : S.hasB zs r.1 = true ∧ S.hasB zs (r.1 - 1) = false ∧ S.hasB zs r.2 = true ∧ S.hasB zs (r.2 + 1) = false := by
  have hg := (S.good_iff r).1 (hc.good r hr)
  have hap : ∀ x ∈ zs, x ≠ r → x.2 + 1 < r.1 ∨ r.2 + 1 < x.1 := fun x hx hne => by
    obtain ⟨i, hi, rfl⟩ := List.getElem_of_mem hx
    obtain ⟨j, hj, rfl⟩ := List.getElem_of_mem hr
    rcases Nat.lt_trichotomy i j with h | h | h
    · exact .inl (List.pairwise_iff_getElem.1 hc.apart i j hi hj h)
    · subst h; exact absurd rfl hne
    · exact .inr (List.pairwise_iff_getElem.1 hc.apart j i hj hi h)
  have no : ∀ p, ¬ (r.1 ≤ p ∧ p ≤ r.2) → r.1 - 1 ≤ p → p ≤ r.2 + 1 → S.hasB zs p = false := fun p h1 h2 h3 => by
    cases h : S.hasB zs p with
    | false => rfl
    | true =>
      obtain ⟨x, hx, h4, h5⟩ := (S.hasB_iff zs p).1 h
      by_cases e : x = r
      · subst e; exact absurd ⟨h4, h5⟩ h1
      · rcases hap x hx e with h6 | h6 <;> omega
  exact ⟨(S.hasB_iff _ _).2 ⟨r, hr, Int.le_refl _, hg.2.1⟩, no _ (by omega) (by omega) (by omega), (S.hasB_iff _ _).2 ⟨r, hr, hg.2.1, Int.le_refl _⟩, no _ (by omega) (by omega) (by omega)⟩
theorem key_turns {T : List (List S.R)} {n : Nat} {a : Int} {i : Nat} (h : (a, i) ∈ evT T n) : msk T a n ≠ msk T (a - 1) n := by
  have hin := evT_lt h
  obtain ⟨k, hk, h1⟩ := List.mem_flatMap.1 h
  obtain ⟨h2, r, hr, h3⟩ := evR_mem h1
  simp only at h2 h3 hin
  subst h2
  intro e
  have hb : (msk T a n).testBit i = (msk T (a - 1) n).testBit i := by rw [e]
  rw [mk_bit, mk_bit, hB_set, hB_set] at hb
  simp only [hin, decide_true, Bool.true_and] at hb
  obtain ⟨c1, c2, c3, c4⟩ := canon_begin (S.set_canon (T.getD i [])) hr
  rcases h3 with rfl | rfl
  · rw [c1, c2] at hb; cases hb
  · rw [show r.2 + 1 - 1 = r.2 by omega, c3, c4] at hb; cases hb
theorem run_begins (zs : List (Int × Nat)) : ((runP zs).1.1 = 0 ∨ ∃ z ∈ zs, z.1 = (runP zs).1.1) ∧ ∀ q ∈ (runP zs).2, q.1.1 = 0 ∨ ∃ z ∈ zs, z.1 = q.1.1 := by
  rcases List.eq_nil_or_concat zs with rfl | ⟨zs', ⟨a, t⟩, rfl⟩
  · exact ⟨.inl rfl, fun q hq => by simp [runP] at hq⟩
  · rw [List.concat_eq_append, runP_snoc]
    obtain ⟨h1, h2⟩ := run_begins zs'
    have lift : ∀ b, (b = 0 ∨ ∃ z ∈ zs', z.1 = b) → b = 0 ∨ ∃ z ∈ zs' ++ [(a, t)], z.1 = b := fun b hb => hb.imp id fun ⟨z, hz, e⟩ => ⟨z, List.mem_append_left _ hz, e⟩
    refine ⟨.inr ⟨(a, t), by simp, rfl⟩, fun q hq => ?_⟩
    simp only at hq
    split at hq
    · rcases List.mem_append.1 hq with h | h
      · exact lift _ (h2 q h)
      · obtain rfl : q = _ := by simpa using h
        exact lift _ h1
    · rw [List.append_nil] at hq
      exact lift _ (h2 q hq)
termination_by zs.length
decreasing_by simp_all
theorem PC_begins (L : List L3) {q : S.R × Nat} (hq : q ∈ PC L) : q.1.1 = 0 ∨ mkL L q.1.1 ≠ mkL L (q.1.1 - 1) := by
  have hb := run_begins (endsZ L)
  have hz : q.1.1 = 0 ∨ ∃ z ∈ endsZ L, z.1 = q.1.1 := by
    unfold PC pieces at hq
    split at hq
    · rcases List.mem_append.1 hq with h | h
      · exact hb.2 q h
      · obtain rfl : q = _ := by simpa using h
        exact hb.1
    · rw [List.append_nil] at hq
      exact hb.2 q hq
  refine hz.imp id ?_
  rintro ⟨z, hz, e⟩
  obtain ⟨k, hk, rfl⟩ := List.mem_map.1 hz
  obtain ⟨i, hi⟩ := (ksOf_mem _ _).1 hk
  rw [← e]
  exact key_turns hi
/-- A class's set is a set. -/
theorem stL_canon {L : List L3} (h : L.length ≤ 64) (m : Nat) : S.Canon (stL L m) := by
  have hc := PC_cov L h
  refine ⟨cov_good hc m, ?_⟩
  unfold stL setsOf
  rw [List.pairwise_map]
  have hr := hc.rise.filter (fun p : S.R × Nat => p.2 == m)
  refine List.Pairwise.imp_of_mem (fun {x y} hx hy hxy => ?_) hr
  obtain ⟨hx1, hx2⟩ := List.mem_filter.1 hx
  obtain ⟨hy1, hy2⟩ := List.mem_filter.1 hy
  have ex := hc.each x hx1
  have ey := hc.each y hy1
  have mx : x.2 = m := by simpa using hx2
  have my : y.2 = m := by simpa using hy2
  have hne : ¬ x.1.2 + 1 = y.1.1 := fun e => by
    rcases PC_begins L hy1 with h0 | h0
    · omega
    · apply h0
      show msk (TOf L) y.1.1 L.length = msk (TOf L) (y.1.1 - 1) L.length
      rw [ey.2.2.2 _ (Int.le_refl _) ey.2.1, ex.2.2.2 (y.1.1 - 1) (by omega) (by omega), mx, my]
  omega
theorem setL_canon {L : List L3} (h : L.length ≤ 64) (j : Int) : S.Canon (setL L j) := by
  unfold setL
  split
  · cases (msL L)[j.toNat]? with
    | none => exact S.canon_nil
    | some m => exact stL_canon h m
  · exact S.canon_nil
end
section

/-- The first i classes, together. -/
def UpTo (L : List L3) (i : Nat) (z : List S.R) : Prop := ∀ p, S.has z p ↔ ∃ j, ∃ hj : j < (msL L).length, j < i ∧ 0 ≤ p ∧ p ≤ 1114111 ∧ mkL L p = (msL L)[j]
theorem upto_zero (L : List L3) : UpTo L 0 [] := fun p => by
  constructor
  · intro h; exact absurd h (S.has_nil p)
  · rintro ⟨j, _, hj, _⟩; omega
theorem setL_has {L : List L3} (h : L.length ≤ 64) {i : Nat} (hi : i < (msL L).length) (p : Int) : S.has (setL L (i : Int)) p ↔ 0 ≤ p ∧ p ≤ 1114111 ∧ mkL L p = (msL L)[i] := by
  rw [← (setL_canon h _).hs]; exact setL_hs h hi p
theorem upto_more {L : List L3} (h : L.length ≤ 64) {i : Nat} (hi : i < (msL L).length) {z : List S.R} (hc : S.Canon z) (hz : UpTo L i z) : UpTo L (i + 1) (S.set (z ++ setL L (i : Int))) ∧ S.count (S.set (z ++ setL L (i : Int))) = S.count z + S.count (setL L (i : Int)) := by
  have hx := setL_canon h (i : Int)
  have hu : ∀ p, S.has (S.set (z ++ setL L (i : Int))) p ↔ S.has z p ∨ S.has (setL L (i : Int)) p := fun p => by
    rw [S.set_has, S.hs_append, hc.hs, hx.hs]
  constructor
  · intro p
    rw [hu, hz p, setL_has h hi]
    constructor
    · rintro (⟨j, hj, h1, h2⟩ | h1)
      · exact ⟨j, hj, by omega, h2⟩
      · exact ⟨i, hi, by omega, h1⟩
    · rintro ⟨j, hj, h1, h2⟩
      rcases Nat.lt_or_ge j i with h4 | h4
      · exact .inl ⟨j, hj, h4, h2⟩
      · obtain rfl : j = i := by omega
        exact .inr h2
  · have hn : ∀ p, S.has [] p ↔ S.has z p ∧ S.has (setL L (i : Int)) p := fun p => by
      constructor
      · intro hp; exact absurd hp (S.has_nil p)
      · rintro ⟨h1, h2⟩
        obtain ⟨j, hj, hji, _, _, e⟩ := (hz p).1 h1
        obtain ⟨_, _, e2⟩ := (setL_has h hi p).1 h2
        have := (List.getElem_inj (h₀ := hj) (h₁ := hi) (msL_nodup L)).1 (e.symm.trans e2)
        omega
    have := S.count_add hc hx (S.set_canon _) S.canon_nil hu hn
    simpa [S.count] using this
theorem upto_all {L : List L3} (h : L.length ≤ 64) {z : List S.R} (hc : S.Canon z) (hz : UpTo L (msL L).length z) : z = [(0, 1114111)] ∧ S.count z = 1114112 := by
  have e : z = [(0, 1114111)] := by
    refine S.canon_eq hc (S.canon_one (by decide)) fun p => ?_
    rw [hz p, S.has_cons]
    constructor
    · rintro ⟨_, _, _, h1, h2, _⟩; exact .inl ⟨h1, h2⟩
    · rintro (⟨h1, h2⟩ | h1)
      · have hm : mkL L p ∈ msL L := (msL_mem h _).2 ⟨p, h1, h2, rfl⟩
        obtain ⟨j, hj, e⟩ := List.getElem_of_mem hm
        exact ⟨j, hj, hj, h1, h2, e.symm⟩
      · exact absurd h1 (S.has_nil p)
  exact ⟨e, by rw [e]; rfl⟩
/-- The least code point of a class. -/
theorem low_has {L : List L3} (h : L.length ≤ 64) {i : Nat} (hi : i < (msL L).length) : (S.low (S.goods (setL L (i : Int)))).2 = true ∧ 0 ≤ (S.low (S.goods (setL L (i : Int)))).1 ∧ mkL L (S.low (S.goods (setL L (i : Int)))).1 = (msL L)[i] ∧ (S.low (S.goods (setL L (i : Int)))).1 ≤ 1114111 ∧ ∀ p, 0 ≤ p → p ≤ 1114111 → mkL L p = (msL L)[i] → (S.low (S.goods (setL L (i : Int)))).1 ≤ p := by
  have hx := setL_canon h (i : Int)
  rw [hx.goods]
  obtain ⟨p, h0, h1, h2⟩ := (msL_mem h _).1 (List.getElem_mem hi)
  have hne : setL L (i : Int) ≠ [] := fun e => by
    have := (setL_has h hi p).2 ⟨h0, h1, h2⟩
    rw [e] at this
    exact S.has_nil p this
  obtain ⟨s1, _, s3⟩ := S.low_spec (setL L (i : Int))
  have ht := s1.2 hne
  obtain ⟨⟨r, hr, er⟩, s5⟩ := s3 ht
  have hg := (S.good_iff r).1 (hx.good r hr)
  have hl := (setL_has h hi (S.low (setL L (i : Int))).1).1 ⟨r, hr, by omega, by omega⟩
  refine ⟨ht, hl.1, hl.2.2, hl.2.1, fun q q0 q1 q2 => ?_⟩
  obtain ⟨x, hx1, hx2, hx3⟩ := (setL_has h hi q).2 ⟨q0, q1, q2⟩
  have := s5 x hx1
  omega
theorem low_rise {L : List L3} (h : L.length ≤ 64) {i j : Nat} (hij : i < j) (hj : j < (msL L).length) : (S.low (S.goods (setL L (i : Int)))).1 < (S.low (S.goods (setL L (j : Int)))).1 := by
  have hi : i < (msL L).length := by omega
  obtain ⟨p, p0, p1, p2, p3⟩ := List.pairwise_iff_getElem.1 (msL_ahead h) i j hi hj hij
  have a := low_has h hi
  have b := low_has h hj
  have c := a.2.2.2.2 p p0 p1 p2
  have d := b.2.2.1
  by_cases hle : (S.low (S.goods (setL L (j : Int)))).1 ≤ p
  · exact absurd d (p3 _ b.2.1 hle)
  · omega
end
section
open Go.RowKit Go.Shelf

theorem count_in {l : List S.R} (h : S.Canon l) : 0 ≤ S.count l ∧ S.count l ≤ 1114112 := by
  have e := S.count_eq 1114112 h fun r hr => by have := (S.good_iff r).1 (h.good r hr); omega
  have := List.countP_le_length (p := fun k : Nat => S.hasB l (k : Int)) (l := List.range 1114112)
  rw [List.length_range] at this
  omega

theorem Reg.eqB {w : World} {ρ : Operand → Value} {o : Oper} {x y : Operand} {p q : Bool} (hop : o.op = .binOp .eql 4 x y 4) (hx : ρ x = .bool p) (hy : ρ y = .bool q) : (execOp ρ o).run Try.prog w = .ok (.value (.bool (p == q))) w := by
  obtain ⟨dst, op, type, pos, after, guard⟩ := o
  simp only at hop
  subst hop
  simp only [execOp, hx, hy]
  cases p <;> cases q <;> kernel_rfl
theorem Reg.pk {w : World} {ρ : Operand → Value} {o : Oper} {c x y : Operand} {b : Bool} {v : Value} (hop : o.op = .pick c x y) (hc : ρ c = .bool b) (hx : (if b then ρ x else ρ y) = v) : (execOp ρ o).run Try.prog w = .ok (.value v) w := by
  obtain ⟨dst, op, type, pos, after, guard⟩ := o
  simp only at hop
  subst hop
  subst hx
  simp only [execOp, hc]
  cases b <;> rfl
theorem Reg.as {w : World} {ρ : Operand → Value} {o : Oper} {x : Operand} {v : Value} (hop : o.op = .assign x) (hx : ρ x = v) : (execOp ρ o).run Try.prog w = .ok (.value v) w := by
  obtain ⟨dst, op, type, pos, after, guard⟩ := o
  simp only at hop
  subst hop
  simp [execOp, hx]
theorem elemSize35 (w : World) : (sizeOf (Try.prog.elem 22)).run Try.prog w = .ok 1 w := by kernel_rfl

set_option maxRecDepth 100000 in
set_option maxHeartbeats 2000000 in
theorem cpart_any (sao : Option Addr) (cap : Nat) (ls : List L3) (hcap : ls.length ≤ cap) (hl : ls.length ≤ 9223372036854775807) (r s : Int) (w : World) (hrd : RdS w sao ls) :
    Calls Try.prog 4 #[.slice sao ls.length cap, .int .i32 r, .int .i32 s] w fun e w' => e = .returned (.bool true) ∧ Below w.heap.size w w' := by
  go_enter Try.func4, Try.ntmps4
  go_wp2_with fail
  refine (known_any w).mono ?_
  rintro e w1 ⟨rfl, hb1⟩
  go_wp2_with fail
  refine (few_any sao cap ls hl w1 (hrd.later hb1)).mono ?_
  rintro e w2 ⟨rfl, rfl⟩
  cases hf : fewB ls with
  | false =>
    go_wp2_with fail
    go_ret
    exact ⟨rfl, hb1⟩
  | true =>
    obtain ⟨h20, h70⟩ := few_each hf
    clear hf
    by_cases h20l : ls.length ≤ 20
    · go_wp2_with fail
      refine (cut_tel sao cap ls hcap (fun p hp => by have := h20 p hp; omega) w2 (hrd.later hb1)).mono ?_
      rintro e w3 ⟨rfl, hT3, hb3⟩
      rw [List.take_of_length_le (by omega)] at hT3
      have hB3 := nx hb1 hb3
      have hrd3 := hrd.later hB3
      generalize hpc : w2.heap.size = pc at hT3 ⊢
      clear hpc hb1 hb3 hrd
      have hpcl := PC_len2 ls (by omega) 20 h20
      have hpcl2 : (PC ls).length ≤ 801 := by omega
      have hml : (msL ls).length ≤ 801 := Nat.le_trans (msOf_length _) hpcl2
      have hsl := fun j => Nat.le_trans (setL_len2 ls j) hpcl2
      clear hpcl hpcl2 h70
      have hlc := fun w' (h : Tel w' pc ls) => tel_len h
      obtain ⟨n, hn⟩ : ∃ n, (msL ls).length = n := ⟨_, rfl⟩
      simp only [hn] at hlc hml
      have HN := hide hn
      clear hn
      go_wp2_with fail
      have e1 : decide ((20 : Int) < (ls.length : Int)) = false := by simp; omega
      try simp only [e1]
      clear e1
      go_loopw [8, 9, 10, 11] (fun v8 v9 v10 v11 wr => ∃ (i : Nat) (a : Option Addr) (c : Nat) (z : List S.R) (lv : Int), v8 = .slice a z.length c ∧ v9 = .int .i64 (S.count z) ∧ v10 = .int .i32 lv ∧ v11 = .int .i64 (i : Int) ∧ i ≤ n ∧ z.length ≤ i * 801 ∧ RdR wr a z ∧ Hid (S.Canon z) ∧ Hid (UpTo ls i z) ∧ Hid (∀ j : Nat, i ≤ j → j < n → lv < (S.low (S.goods (setL ls (j : Int)))).1) ∧ Below w3.heap.size w3 wr) (fun _ _ _ v _ => n - (intOf v).toNat)
      case atStart =>
        refine ⟨0, none, 0, [], -1, rfl, rfl, rfl, rfl, Nat.zero_le _, Nat.zero_le _, rdr_nil _ _, hide S.canon_nil, hide (upto_zero ls), hide (fun j _ hj => ?_), Below.refl _ _⟩
        have := (low_has (L := ls) (by omega) (i := j) (by rw [HN.out]; exact hj)).2.1
        omega
      case round =>
        obtain ⟨i, a, c, z, lv, rfl, rfl, rfl, rfl, hi, hzl, hrz, HC, HU, HL, hb⟩ := hrel
        have hT := hT3.later hb
        go_wp2_with fail
        refine (hlc _ hT).mono ?_
        rintro e w4 ⟨rfl, rfl⟩
        by_cases hlt : i < n
        · have hs := tel_set hT (i : Int)
          have hx := hsl (i : Int)
          have hlt' : i < (msL ls).length := by rw [HN.out]; exact hlt
          have HX := hide (setL_canon (L := ls) (by omega) (i : Int))
          have HMo := hide (upto_more (by omega) hlt' HC.out HU.out)
          have HLo := hide (low_has (L := ls) (by omega) hlt')
          have HRi : Hid (∀ j : Nat, i < j → j < n → (S.low (S.goods (setL ls (i : Int)))).1 < (S.low (S.goods (setL ls (j : Int)))).1) := hide fun j h1 h2 => low_rise (by omega) h1 (by rw [HN.out]; exact h2)
          have hlvi := HL.out i (Nat.le_refl _) hlt
          obtain ⟨xs, hxs⟩ : ∃ xs, setL ls (i : Int) = xs := ⟨_, rfl⟩
          rw [hxs] at hs hx HX HMo HLo HRi hlvi
          clear hxs
          have hcx := S.set_self HX.out
          obtain ⟨lw, hlw⟩ : ∃ lw, S.low (S.goods xs) = lw := ⟨_, rfl⟩
          have hlo2 := HLo.out.1
          have hlo3 := HLo.out.2.1
          have hlo4 := HLo.out.2.2.2.1
          rw [hlw] at hlo2 hlo3 hlo4 HRi hlvi
          obtain ⟨lw1, lw2⟩ := lw
          simp only at hlo2 hlo3 hlo4 HRi hlvi
          subst hlo2
          have hg32 : ∀ q ∈ xs, -2147483648 ≤ q.1 ∧ q.1 ≤ 2147483647 ∧ -2147483648 ≤ q.2 ∧ q.2 ≤ 2147483647 := fun q hq => by
            have := (S.good_iff q).1 (HX.out.good q hq)
            omega
          have hz1 := count_in HC.out
          have hx1 := count_in HX.out
          have HMo1 := hide HMo.out.1
          have HMo2 := hide HMo.out.2
          obtain ⟨cz, hcz⟩ : ∃ cz, S.count z = cz := ⟨_, rfl⟩
          obtain ⟨cx, hcx2⟩ : ∃ cx, S.count xs = cx := ⟨_, rfl⟩
          rw [hcz] at hz1 HMo2 ⊢
          rw [hcx2] at hx1 HMo2
          have hlen7 := S.set_length (z ++ xs)
          rw [List.length_append] at hlen7
          have HC7 := hide (S.set_canon (z ++ xs))
          have hun := fun a1 c1 w' (h1 : RdR w' a z) (h2 : RdR w' a1 xs) => union_any a a1 c c1 z xs (by omega) w' h1 h2
          obtain ⟨z7, hz7⟩ : ∃ z7, S.set (z ++ xs) = z7 := ⟨_, rfl⟩
          simp only [hz7] at hun
          rw [hz7] at HMo1 HMo2 hlen7 HC7
          clear HMo hz7 HLo HC HU HL hcz
          go_wp2_with fail
          refine hs.mono ?_
          clear hs
          rintro e w5 ⟨a5, c5, rfl, hr5, -, hb5⟩
          go_wp2_with fail
          have hco := count_any a5 c5 xs (by omega) w5 hr5
          rw [hcx, hcx2] at hco
          clear hcx hcx2
          refine hco.mono ?_
          clear hco
          rintro e w6 ⟨rfl, hb6⟩
          go_wp2_with fail
          refine (hun a5 c5 w6 (hrz.later (nx hb5 hb6)) (hr5.later hb6)).mono ?_
          clear hun
          rintro e w7 ⟨a7, c7, rfl, hr7, -, hb7⟩
          go_wp2_with fail
          have hle := least_any a5 c5 xs (by omega) w7 (hr5.later (nx hb6 hb7))
          rw [hlw] at hle
          clear hlw
          refine hle.mono ?_
          clear hle
          rintro e w8 ⟨rfl, hb8⟩
          go_wp2_with fail
          refine (is_any a5 c5 xs hg32 (by omega) w8 (hr5.later (nx (nx hb6 hb7) hb8))).mono ?_
          rintro e w9 ⟨⟨bb, rfl, htold⟩, hb9⟩
          obtain rfl : bb = true := htold.2 HX.out
          have hB9 := nx hb (nx hb5 (nx hb6 (nx hb7 (nx hb8 hb9))))
          have hr9 := hr7.later (nx hb8 hb9)
          clear hb5 hb6 hb7 hb8 hb9 htold hr5 hr7 hrz hb hT HX hg32
          go_wp2_with fail
          go_roundw
          case rel => exact ⟨i + 1, a7, c7, z7, lw1, rfl, by rw [HMo2.out], rfl, by go_num, by omega, by omega, hr9, HC7, HMo1, hide (fun j h1 h2 => HRi.out j (by omega) h2), hB9⟩
          case measure => simp [intOf]; omega
        · obtain rfl : i = n := by omega
          obtain ⟨hze, hzc⟩ := upto_all (L := ls) (by omega) HC.out (by rw [HN.out]; exact HU.out)
          have hco := count_any a c z (by rw [hze]; simp) _ hrz
          rw [S.set_self HC.out, hzc] at hco
          rw [hzc]
          have HZE := hide hze
          clear hze hzc
          go_wp2_with fail
          refine hco.mono ?_
          clear hco
          rintro e w10 ⟨rfl, hb10⟩
          have hB10 := nx (nx hB3 hb) hb10
          have hT10 := hT.later hb10
          have hrd10 := hrd3.later (nx hb hb10)
          clear hrz HC HU HL hb hb10 hT hT3 hB3 hrd3 HZE
          by_cases q1 : 0 ≤ r
          · by_cases q2 : 0 ≤ s
            · by_cases q3 : r ≤ 1114111
              · by_cases q4 : s ≤ 1114111
                · go_wp2_with fail
                  have e1 : decide (r < 0) = false := by simp; omega
                  have e2 : decide (s < 0) = false := by simp; omega
                  have e3 : decide ((1114111 : Int) < r) = false := by simp; omega
                  have e4 : decide ((1114111 : Int) < s) = false := by simp; omega
                  try simp only [e1, e2, e3, e4, Bool.or_self]
                  clear e1 e2 e3 e4
                  have HH : Hid (∀ k (hk : k < ls.length), S.hB ls[k].2.2 r = (mkL ls r).testBit k ∧ S.hB ls[k].2.2 s = (mkL ls s).testBit k) := hide fun k hk => ⟨(mkL_bit ls r k hk).symm, (mkL_bit ls s k hk).symm⟩
                  go_loopw [15, 16] (fun v u wr => ∃ (b : Bool) (i : Nat), v = .bool b ∧ u = .int .i64 (i : Int) ∧ i ≤ ls.length ∧ Hid (b = true ↔ ∀ k (hk : k < ls.length), k < i → S.hB ls[k].2.2 r = S.hB ls[k].2.2 s) ∧ Below w10.heap.size w10 wr) (fun _ u _ => ls.length - (intOf u).toNat)
                  case atStart => exact ⟨true, 0, rfl, rfl, Nat.zero_le _, hide (by simp), Below.refl _ _⟩
                  case round =>
                    obtain ⟨bs, i, rfl, rfl, hi, HB, hb⟩ := hrel
                    by_cases hlt : i < ls.length
                    · obtain ⟨b, off, rfl, c1, hr1⟩ := (hrd10.later hb) i hlt
                      have hxl := h20 _ (List.getElem_mem hlt)
                      have HB2 : Hid (∀ b' : Bool, (b' = true ↔ (bs = true ∧ S.hB ls[i].2.2 r = S.hB ls[i].2.2 s)) → (b' = true ↔ ∀ k (hk : k < ls.length), k < i + 1 → S.hB ls[k].2.2 r = S.hB ls[k].2.2 s)) := hide fun b' hb' => by
                        rw [hb', HB.out]
                        constructor
                        · rintro ⟨h1, h2⟩ k hk hki
                          rcases Nat.lt_or_ge k i with h | h
                          · exact h1 k hk h
                          · obtain rfl : k = i := by omega
                            exact h2
                        · intro h
                          exact ⟨fun k hk hki => h k hk (by omega), h i hlt (by omega)⟩
                      obtain ⟨xs, hxs⟩ : ∃ xs, ls[i].2.2 = xs := ⟨_, rfl⟩
                      obtain ⟨ca, hca⟩ : ∃ ca, ls[i].2.1 = ca := ⟨_, rfl⟩
                      obtain ⟨ao, hao⟩ : ∃ ao, ls[i].1 = ao := ⟨_, rfl⟩
                      rw [hxs, hca, hao] at c1
                      rw [hxs, hao] at hr1
                      rw [hxs] at HB2 hxl
                      rw [← Nat.mul_one i] at c1
                      clear hxs hca hao HB
                      cases bs with
                      | true =>
                        go_wp2_with fail
                        refine Reg.start (B := wr.heap.size) (by kernel_rfl) ?_
                        refine Reg.take (fun _ _ _ _ _ h => h) 0 _ 91 (.bool true) rfl (by kernel_rfl) (by kernel_rfl) (by kernel_rfl) rfl (by kernel_rfl) (by kernel_rfl) (fun _ _ => Reg.mv rfl rfl) ?_
                        refine Reg.take (fun _ _ _ _ _ h => h) 1 _ 92 (.bool true) rfl (by kernel_rfl) (by kernel_rfl) (by kernel_rfl) rfl (by kernel_rfl) (by kernel_rfl) (fun _ _ => Reg.mv rfl rfl) ?_
                        refine Reg.take (fun _ _ _ _ _ h => h) 2 _ 93 (.slice (some ⟨b, off, none⟩) ls.length cap) rfl (by kernel_rfl) (by kernel_rfl) (by kernel_rfl) rfl (by kernel_rfl) (by kernel_rfl) (fun _ _ => Reg.mv rfl rfl) ?_
                        refine Reg.take (fun _ _ _ _ _ h => h) 3 _ 94 (.int .i64 (i : Int)) rfl (by kernel_rfl) (by kernel_rfl) (by kernel_rfl) rfl (by kernel_rfl) (by kernel_rfl) (fun _ _ => Reg.mv rfl rfl) ?_
                        refine Reg.take (fun _ _ _ _ _ h => h) 4 _ 95 (.pointer (some ⟨b, off + i * 1, none⟩)) rfl (by kernel_rfl) (by kernel_rfl) (by kernel_rfl) rfl (by kernel_rfl) (by kernel_rfl) (fun w' _ => Reg.ix rfl rfl rfl hlt (by kernel_rfl) (elemSize35 w')) ?_
                        refine Reg.take (fun _ _ _ _ _ h => h) 5 _ 96 (.slice ao xs.length ca) rfl (by kernel_rfl) (by kernel_rfl) (by kernel_rfl) rfl (by kernel_rfl) (by kernel_rfl) (fun w' hw => Reg.ld1 rfl rfl (cell_later (w := wr.drew) hw c1) (Try.isAgg35 _)) ?_
                        refine Reg.take (fun _ _ _ _ _ h => h) 6 _ 97 (.int .i32 r) rfl (by kernel_rfl) (by kernel_rfl) (by kernel_rfl) rfl (by kernel_rfl) (by kernel_rfl) (fun _ _ => Reg.mv rfl rfl) ?_
                        refine Reg.take (fun _ _ _ _ _ h => h) 8 _ 99 (.slice (some ⟨b, off, none⟩) ls.length cap) rfl (by kernel_rfl) (by kernel_rfl) (by kernel_rfl) rfl (by kernel_rfl) (by kernel_rfl) (fun _ _ => Reg.mv rfl rfl) ?_
                        refine Reg.take (fun _ _ _ _ _ h => h) 9 _ 100 (.int .i64 (i : Int)) rfl (by kernel_rfl) (by kernel_rfl) (by kernel_rfl) rfl (by kernel_rfl) (by kernel_rfl) (fun _ _ => Reg.mv rfl rfl) ?_
                        refine Reg.take (fun _ _ _ _ _ h => h) 10 _ 101 (.pointer (some ⟨b, off + i * 1, none⟩)) rfl (by kernel_rfl) (by kernel_rfl) (by kernel_rfl) rfl (by kernel_rfl) (by kernel_rfl) (fun w' _ => Reg.ix rfl rfl rfl hlt (by kernel_rfl) (elemSize35 w')) ?_
                        refine Reg.take (fun _ _ _ _ _ h => h) 11 _ 102 (.slice ao xs.length ca) rfl (by kernel_rfl) (by kernel_rfl) (by kernel_rfl) rfl (by kernel_rfl) (by kernel_rfl) (fun w' hw => Reg.ld1 rfl rfl (cell_later (w := wr.drew) hw c1) (Try.isAgg35 _)) ?_
                        refine Reg.take (fun _ _ _ _ _ h => h) 12 _ 103 (.int .i32 s) rfl (by kernel_rfl) (by kernel_rfl) (by kernel_rfl) rfl (by kernel_rfl) (by kernel_rfl) (fun _ _ => Reg.mv rfl rfl) ?_
                        refine Reg.call 7 _ 98 16 _ _ #[.slice ao xs.length ca, .int .i32 r] rfl (by kernel_rfl) rfl (by kernel_rfl) (by kernel_rfl) rfl (by kernel_rfl) (by kernel_rfl) (has_any ao ca xs r (by omega) wr.drew hr1) ?_
                        rintro e w30 ⟨rfl, hb30⟩
                        refine ⟨_, w30.heap.size, rfl, hb30.size, hb30, ?_⟩
                        refine Reg.call 13 _ 104 16 _ _ #[.slice ao xs.length ca, .int .i32 s] rfl (by kernel_rfl) rfl (by kernel_rfl) (by kernel_rfl) rfl (by kernel_rfl) (by kernel_rfl) (has_any ao ca xs s (by omega) w30 (RdR.later (w := wr.drew) hr1 hb30)) ?_
                        rintro e w31 ⟨rfl, hb31⟩
                        refine ⟨_, w31.heap.size, rfl, hb31.size, hb31, ?_⟩
                        refine Reg.take (fun _ _ _ _ _ h => h) 14 _ 105 (.bool (S.hB xs r == S.hB xs s)) rfl (by kernel_rfl) (by kernel_rfl) (by kernel_rfl) rfl (by kernel_rfl) (by kernel_rfl) (fun _ _ => Reg.eqB rfl rfl rfl) ?_
                        refine Reg.take (fun _ _ _ _ _ h => h) 15 _ 106 (.bool (S.hB xs r == S.hB xs s)) rfl (by kernel_rfl) (by kernel_rfl) (by kernel_rfl) rfl (by kernel_rfl) (by kernel_rfl) (fun _ _ => Reg.pk (b := true) rfl rfl rfl) ?_
                        refine Reg.take (fun _ _ _ _ _ h => h) 16 _ 15 (.bool (S.hB xs r == S.hB xs s)) rfl (by kernel_rfl) (by kernel_rfl) (by kernel_rfl) rfl (by kernel_rfl) (by kernel_rfl) (fun _ _ => Reg.as rfl rfl) ?_
                        refine Reg.done (by kernel_rfl) ?_
                        simp only [Reg.ov, Act.put, List.setIfInBounds_toArray, List.set_cons_succ, List.set_cons_zero]
                        have hB31 := nx hb (nx ((Below.refl _ wr).drew) (nx hb30 hb31))
                        have HQ := hide (HB2.out (S.hB xs r == S.hB xs s) (by simp))
                        clear HB2 c1 hr1 hb30 hb31 hb
                        generalize (S.hB xs r == S.hB xs s) = bq at *
                        go_wp2_with fail
                        go_roundw
                        case rel => exact ⟨bq, i + 1, rfl, by go_num, by omega, HQ, hB31⟩
                        case measure => simp [intOf]; omega
                      | false =>
                        go_wp2_with fail
                        refine Reg.start (B := wr.heap.size) (by kernel_rfl) ?_
                        refine Reg.take (fun _ _ _ _ _ h => h) 0 _ 91 (.bool false) rfl (by kernel_rfl) (by kernel_rfl) (by kernel_rfl) rfl (by kernel_rfl) (by kernel_rfl) (fun _ _ => Reg.mv rfl rfl) ?_
                        refine Reg.take (fun _ _ _ _ _ h => h) 1 _ 92 (.bool false) rfl (by kernel_rfl) (by kernel_rfl) (by kernel_rfl) rfl (by kernel_rfl) (by kernel_rfl) (fun _ _ => Reg.mv rfl rfl) ?_
                        refine Reg.skip (fun _ _ _ _ _ h => h) 2 _ 93 rfl (by kernel_rfl) (by kernel_rfl) (by kernel_rfl) rfl (by kernel_rfl) (by kernel_rfl) ?_
                        refine Reg.skip (fun _ _ _ _ _ h => h) 3 _ 94 rfl (by kernel_rfl) (by kernel_rfl) (by kernel_rfl) rfl (by kernel_rfl) (by kernel_rfl) ?_
                        refine Reg.skip (fun _ _ _ _ _ h => h) 4 _ 95 rfl (by kernel_rfl) (by kernel_rfl) (by kernel_rfl) rfl (by kernel_rfl) (by kernel_rfl) ?_
                        refine Reg.skip (fun _ _ _ _ _ h => h) 5 _ 96 rfl (by kernel_rfl) (by kernel_rfl) (by kernel_rfl) rfl (by kernel_rfl) (by kernel_rfl) ?_
                        refine Reg.skip (fun _ _ _ _ _ h => h) 6 _ 97 rfl (by kernel_rfl) (by kernel_rfl) (by kernel_rfl) rfl (by kernel_rfl) (by kernel_rfl) ?_
                        refine Reg.skip (fun _ _ _ _ _ h => h) 7 _ 98 rfl (by kernel_rfl) (by kernel_rfl) (by kernel_rfl) rfl (by kernel_rfl) (by kernel_rfl) ?_
                        refine Reg.skip (fun _ _ _ _ _ h => h) 8 _ 99 rfl (by kernel_rfl) (by kernel_rfl) (by kernel_rfl) rfl (by kernel_rfl) (by kernel_rfl) ?_
                        refine Reg.skip (fun _ _ _ _ _ h => h) 9 _ 100 rfl (by kernel_rfl) (by kernel_rfl) (by kernel_rfl) rfl (by kernel_rfl) (by kernel_rfl) ?_
                        refine Reg.skip (fun _ _ _ _ _ h => h) 10 _ 101 rfl (by kernel_rfl) (by kernel_rfl) (by kernel_rfl) rfl (by kernel_rfl) (by kernel_rfl) ?_
                        refine Reg.skip (fun _ _ _ _ _ h => h) 11 _ 102 rfl (by kernel_rfl) (by kernel_rfl) (by kernel_rfl) rfl (by kernel_rfl) (by kernel_rfl) ?_
                        refine Reg.skip (fun _ _ _ _ _ h => h) 12 _ 103 rfl (by kernel_rfl) (by kernel_rfl) (by kernel_rfl) rfl (by kernel_rfl) (by kernel_rfl) ?_
                        refine Reg.skip (fun _ _ _ _ _ h => h) 13 _ 104 rfl (by kernel_rfl) (by kernel_rfl) (by kernel_rfl) rfl (by kernel_rfl) (by kernel_rfl) ?_
                        refine Reg.skip (fun _ _ _ _ _ h => h) 14 _ 105 rfl (by kernel_rfl) (by kernel_rfl) (by kernel_rfl) rfl (by kernel_rfl) (by kernel_rfl) ?_
                        refine Reg.take (fun _ _ _ _ _ h => h) 15 _ 106 (.bool false) rfl (by kernel_rfl) (by kernel_rfl) (by kernel_rfl) rfl (by kernel_rfl) (by kernel_rfl) (fun _ _ => Reg.pk (b := false) rfl rfl rfl) ?_
                        refine Reg.take (fun _ _ _ _ _ h => h) 16 _ 15 (.bool false) rfl (by kernel_rfl) (by kernel_rfl) (by kernel_rfl) rfl (by kernel_rfl) (by kernel_rfl) (fun _ _ => Reg.as rfl rfl) ?_
                        refine Reg.done (by kernel_rfl) ?_
                        simp only [Reg.ov, Act.put, List.setIfInBounds_toArray, List.set_cons_succ, List.set_cons_zero]
                        have hB31 := nx hb ((Below.refl _ wr).drew)
                        have HQ := hide (HB2.out false (by simp))
                        clear HB2 c1 hr1 hb
                        go_wp2_with fail
                        go_roundw
                        case rel => exact ⟨false, i + 1, rfl, by go_num, by omega, HQ, hB31⟩
                        case measure => simp [intOf]; omega
                    · obtain rfl : i = ls.length := by omega
                      have hTr := hT10.later hb
                      have HXY : Hid (bs = true ↔ ofL ls r = ofL ls s) := hide (by
                        rw [HB.out, of_eq (by omega) ⟨q1, q3⟩ ⟨q2, q4⟩]
                        constructor
                        · intro h
                          refine Nat.eq_of_testBit_eq fun k => ?_
                          by_cases hk : k < ls.length
                          · rw [← (HH.out k hk).1, ← (HH.out k hk).2]; exact h k hk hk
                          · unfold mkL; rw [mk_bit, mk_bit]; simp [hk]
                        · intro h k hk _
                          rw [(HH.out k hk).1, (HH.out k hk).2, h])
                      have h1 := tel_of hTr r
                      have h2 := fun w' (h : Tel w' pc ls) => tel_of h s
                      obtain ⟨x, hx⟩ : ∃ x, ofL ls r = x := ⟨_, rfl⟩
                      obtain ⟨y, hy⟩ : ∃ y, ofL ls s = y := ⟨_, rfl⟩
                      rw [hx, hy] at HXY
                      rw [hx] at h1
                      simp only [hy] at h2
                      clear hx hy HB HH
                      cases bs with
                      | true =>
                        obtain rfl := HXY.out.1 rfl
                        go_wp2_with fail
                        refine h1.mono ?_
                        rintro e w40 ⟨rfl, hb40⟩
                        go_wp2_with fail
                        refine (h2 _ (hTr.later hb40)).mono ?_
                        rintro e w41 ⟨rfl, hb41⟩
                        have hB41 := nx hB10 (nx hb (nx hb40 hb41))
                        go_wp2_with fail
                        go_ret
                        exact ⟨by simp, hB41⟩
                      | false =>
                        have hxy : (x == y) = false := by
                          rw [beq_eq_false_iff_ne]
                          intro e
                          have := HXY.out.2 e
                          cases this
                        clear HXY
                        go_wp2_with fail
                        refine h1.mono ?_
                        rintro e w40 ⟨rfl, hb40⟩
                        go_wp2_with fail
                        refine (h2 _ (hTr.later hb40)).mono ?_
                        rintro e w41 ⟨rfl, hb41⟩
                        have hB41 := nx hB10 (nx hb (nx hb40 hb41))
                        go_wp2_with fail
                        go_ret
                        exact ⟨by simp, hB41⟩
                · have q4' : 1114111 < s := by omega
                  go_wp2_with fail
                  go_ret
                  exact ⟨rfl, hB10⟩
              · have q3' : 1114111 < r := by omega
                go_wp2_with fail
                go_ret
                exact ⟨rfl, hB10⟩
            · have q2' : s < 0 := by omega
              go_wp2_with fail
              go_ret
              exact ⟨rfl, hB10⟩
          · have q1' : r < 0 := by omega
            go_wp2_with fail
            go_ret
            exact ⟨rfl, hB10⟩
    · have h20l' : 20 < ls.length := by omega
      go_wp2_with fail
      go_ret
      exact ⟨rfl, hb1⟩
end
end Go.Proofs.Ytbkcbclloemajaa
