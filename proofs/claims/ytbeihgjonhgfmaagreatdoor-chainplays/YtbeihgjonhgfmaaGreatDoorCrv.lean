/- The reference's Set. -/
import Derived.Test.YtbeihgjonhgfmaaGreatDoorCrt
namespace Go.Proofs.YtbeihgjonhgfmaaGreatDoor
open Go.RowKit Go.Shelf Go.Maps
attribute [local go_sem] Oper.semAt_some
namespace C
/-- What a change of the reference's forest may touch. -/
def Tch (a : Nat) (vT vN : Value) (k : Nat) : Prop := k = a ∨ vT.ownBlock = some k ∨ vN.ownBlock = some k
theorem own_pos {W : World} {B : Nat} {v : Value} {ss : List Tx} (h : OwnN W B v ss) (hp : 0 < ss.length) : ∃ g cap, v = .slice (some ⟨g, 0, none⟩) ss.length cap := by
  obtain ⟨_, ⟨_, h0⟩ | ⟨g, cap, cur, rfl, _⟩⟩ := h
  · omega
  · exact ⟨g, cap, rfl⟩
theorem small_putR {L : Row} (hs : ∀ y ∈ L, y.1.length ≤ 40 ∧ y.2.length ≤ 40) {k p : Tx} (hk : k.length ≤ 40 ∧ p.length ≤ 40) : ∀ y ∈ put L k p, y.1.length ≤ 40 ∧ y.2.length ≤ 40 := fun y hy => by
  rcases mem_put.1 hy with rfl | ⟨hy, _⟩
  · exact hk
  · exact hs y hy
theorem RO.setN {n0 : Nat} {w : World} {a : Nat} {vT : Value} {L : Row} {g n cap i : Nat} {k p : Tx} (h : RO n0 w a vT (.slice (some ⟨g, 0, none⟩) n cap) L) (hi : i < L.length) (he : L[i].1 = k) (hp : p.length ≤ 40) :
    w.cell? ⟨g, i, none⟩ = some (tx ((ps L)[i]'(by rw [ps_len]; exact hi))) ∧ w.frozen? ⟨g, i, none⟩ = false ∧ RO n0 (w.setCell ⟨g, i, none⟩ (tx p)) a vT (.slice (some ⟨g, 0, none⟩) n cap) (put L k p) ∧ Chg (Tch a vT (.slice (some ⟨g, 0, none⟩) n cap)) w (w.setCell ⟨g, i, none⟩ (tx p)) := by
  have hi2 : i < (ps L).length := by rw [ps_len]; exact hi
  obtain ⟨c2, f2, o2, ch2⟩ := put1 h.named hi2 p
  obtain ⟨_, _, cur, hcur, _⟩ := own_parts h.named
  have hkl : k.length ≤ 40 := by rw [← he]; exact (h.small _ (List.getElem_mem hi)).1
  have e := put_at h.srt (p := p) hi he
  refine ⟨c2, f2, ⟨(ch2.block a h.lt fun e => by rw [← e, h.box] at hcur; cases hcur).trans h.box, ?_, ?_, h.apart, h.base, srt_put h.srt k p, small_putR h.small ⟨hkl, hp⟩⟩, ⟨ch2.os, ch2.tape, ch2.output, ch2.size, fun q hq hn => ch2.block q hq fun e => hn (.inr (.inr (by rw [e]; rfl)))⟩⟩
  · rw [e, ks_set hi he]
    exact own_keep h.tags fun q hq => ch2.block q (own_ty h.tags hq).2.1 fun e => h.apart q hq (by rw [e]; rfl)
  · rw [e, ps_set]
    exact o2
theorem bl_eq : ∀ a b : Tx, Op.bytesLess a b = bytesBefore a b
  | [], [] => rfl
  | [], _ :: _ => rfl
  | _ :: _, [] => rfl
  | a :: r, b :: s => by simp only [Op.bytesLess, bytesBefore, bl_eq r s]
theorem mid_len {A : List Tx} {i : Nat} {z : Tx} : (A.take i ++ z :: A.drop i).length = A.length + 1 := by simp; omega
theorem set_mid {A : List Tx} {i : Nat} {z x : Tx} (hi : i ≤ A.length) : (A.take i ++ z :: A.drop i).set i x = A.take i ++ x :: A.drop i := by
  rw [List.set_append_right _ _ (by simp; omega)]
  simp [Nat.min_eq_left hi]
theorem RO.fin {n0 : Nat} {w wr W4 W5 W6 W7 : World} {a : Nat} {vT vN : Value} {L : Row} {g n cap g2 n2 cap2 i : Nat} {z1 z2 k p : Tx} {A4 N4 : List Tx} (h : RO n0 wr a vT vN L) (hc3 : Chg (Tch a vT vN) w wr)
    (h4 : (∀ k, (Value.slice (some ⟨g, 0, none⟩) n cap).ownBlock = some k → (Value.slice (some ⟨g2, 0, none⟩) n2 cap2).ownBlock ≠ some k) ∧ Chg (fun k => k = a ∨ vT.ownBlock = some k ∨ vN.ownBlock = some k) wr W4 ∧ (∀ k, k < wr.heap.size → (Value.slice (some ⟨g, 0, none⟩) n cap).ownBlock = some k → vT.ownBlock = some k) ∧ ∀ k, k < wr.heap.size → (Value.slice (some ⟨g2, 0, none⟩) n2 cap2).ownBlock = some k → vN.ownBlock = some k)
    (h5 : Chg (fun k => k = g) W4 W5) (h6 : Chg (fun k => k = g2) W5 W6) (hb : W7.heap[a]? = some (.cells #[.slice (some ⟨g, 0, none⟩) n cap, .slice (some ⟨g2, 0, none⟩) n2 cap2] 40)) (ot : OwnN W7 n0 (.slice (some ⟨g, 0, none⟩) n cap) (((ks L).take i ++ z1 :: (ks L).drop i).set i k)) (on : OwnN W7 n0 (.slice (some ⟨g2, 0, none⟩) n2 cap2) (((ps L).take i ++ z2 :: (ps L).drop i).set i p)) (h7 : Chg (fun k => k = g ∨ k = g2) W6 W7)
    (hp : put L k p = L.take i ++ (k, p) :: L.drop i) (hkp : k.length ≤ 40 ∧ p.length ≤ 40) (hi : i ≤ L.length) (_ : OwnN W4 n0 (.slice (some ⟨g, 0, none⟩) n cap) A4) (_ : OwnN W4 n0 (.slice (some ⟨g2, 0, none⟩) n2 cap2) N4) :
    RO n0 W7 a (.slice (some ⟨g, 0, none⟩) n cap) (.slice (some ⟨g2, 0, none⟩) n2 cap2) (put L k p) ∧ Chg (Tch a vT vN) w W7 := by
  obtain ⟨hap, h4, o1, o2⟩ := h4
  have q1 : ∀ i, i < w.heap.size → i = g → Tch a vT vN i := fun i hi e => .inr (.inl (o1 i (Nat.lt_of_lt_of_le hi hc3.size) (by rw [e]; rfl)))
  have q2 : ∀ i, i < w.heap.size → i = g2 → Tch a vT vN i := fun i hi e => .inr (.inr (o2 i (Nat.lt_of_lt_of_le hi hc3.size) (by rw [e]; rfl)))
  refine ⟨⟨hb, ?_, ?_, hap, h.base, srt_put h.srt k p, small_putR h.small hkp⟩, ((((hc3.then h4 fun _ _ e => e).then h5 q1).then h6 q2).then h7 fun i hi e => e.elim (q1 i hi) (q2 i hi))⟩
  · rw [hp, ks_new, ← set_mid (z := z1) (by rw [ks_len]; exact hi)]; exact ot
  · rw [hp, ps_new, ← set_mid (z := z2) (by rw [ps_len]; exact hi)]; exact on
set_option maxRecDepth 100000 in
set_option maxHeartbeats 4000000 in
theorem refSet_any {n0 : Nat} {w : World} {a : Nat} {vT vN : Value} {L : Row} (h : RO n0 w a vT vN L) (hn0 : n0 ≤ w.heap.size) (hl : L.length < 1000) (k p : Tx) (hk : k.length ≤ 60) (hp : p.length ≤ 60) :
    Calls Tryz.prog 19 #[.pointer (some ⟨a, 0, none⟩), tx k, tx p] w fun e W' => e = .returned (.int .i64 (if G.isT k = true ∧ (p = [] ∨ G.isT p = true) then 0 else 100)) ∧ (∃ vT' vN', RO n0 W' a vT' vN' (setM L k p)) ∧ Chg (Tch a vT vN) w W' := by
  have hes := elemSize30
  have hik := fun W => refIs_any k (by omega) W
  have hip := fun W => refIs_any p (by omega) W
  have hpl := fun W (hW : Below w.heap.size w W) => place_any (h.later hW) (by omega) k
  have HH := hide h
  have HC : Hid (∀ W, Below w.heap.size w W → Chg (Tch a vT vN) w W) := hide (fun W hW => Chg.of hW)
  have hc0 := fun W (hW : Below w.heap.size w W) => (h.later hW).c0
  have hc1 := fun W (hW : Below w.heap.size w W) => (h.later hW).c1
  clear h
  by_cases h1 : G.isT k = true
  · by_cases h2 : p = [] ∨ G.isT p = true
    · rw [if_pos ⟨h1, h2⟩]
      have HS : Hid (setM L k p = put L k p) := hide (by unfold setM; rw [if_pos ⟨h1, h2⟩])
      rw [h1] at hik
      have HKP : Hid (k.length ≤ 40 ∧ p.length ≤ 40) := hide ⟨isT_len h1, h2.elim (fun e => by rw [e]; simp) isT_len⟩
      rcases h2 with hp0 | h2
      · have hpb : (p == []) = true := by simpa using hp0
        clear hip hp0
        unfold tx at *
        go_enter Tryz.func19, Tryz.ntmps19
        go_wp2_with fail
        refine (hik w).mono ?_
        rintro e w2 ⟨rfl, b2⟩
        clear hik
        go_wp2_with fail
        refine (hpl w2 b2).mono ?_
        rintro e w3 ⟨rfl, b3⟩
        have b3' := nx b2 b3
        have HR3 := hide (HH.out.later b3')
        have k0 := hc0 w3 b3'
        have k1 := hc1 w3 b3'
        have HC3 := hide (HC.out w3 b3')
        have hz3 : w.heap.size ≤ w3.heap.size := b3'.size
        clear hpl hc0 hc1 b2 b3 HC b3'
        cases hh : has L k with
        | true =>
          obtain ⟨i, hpi, hil, hik2⟩ := pl_key HH.out.srt hh
          have hpsl := ps_len L
          obtain ⟨g2, cap2, hvn⟩ := own_pos HR3.out.named (by omega)
          subst hvn
          obtain ⟨c2, f2, r2, ch2⟩ := HR3.out.setN hil hik2 HKP.out.2
          have HR := hide r2
          have HCH := hide (HC3.out.then ch2 fun _ _ e => e)
          have hil2 : i < (ps L).length := by omega
          rw [hpi]
          generalize (ps L)[i]'hil2 = po at *
          generalize (ps L).length = n2 at *
          clear hpi hik2 r2 ch2 hh
          unfold tx at *
          go_wp2
          go_ret
          exact ⟨rfl, ⟨_, _, by rw [HS.out]; exact HR.out⟩, HCH.out⟩
        | false =>
          rw [plI_lt hh]
          have hksl := ks_len L
          have hpsl := ps_len L
          obtain ⟨ao, cap, hvt, _, hrd⟩ := HR3.out.tags.rd
          have HRD := hide hrd
          subst hvt
          have HB3 := hide HR3.out.box
          have HNN := hide HR3.out
          clear hrd
          go_wp2
          go_loopw [7] (fun u wr => ∃ i : Nat, u = .int .i64 (i : Int) ∧ i ≤ (ks L).length ∧ Hid (∀ j (h : j < (ks L).length), j < i → bytesBefore (ks L)[j] k = true) ∧ wr = w3) (fun u _ => (ks L).length - (intOf u).toNat)
          case atStart => exact ⟨0, rfl, by omega, hide (fun j h h0 => by omega), by first | rfl | trivial⟩
          case round =>
            obtain ⟨i, rfl, hi, HN, rfl⟩ := hrel
            by_cases hlt : i < (ks L).length
            · obtain ⟨b, off, rfl, hbb, hc⟩ := HRD.out i hlt
              by_cases hb : bytesBefore (ks L)[i] k = true
              · have hbl : Op.bytesLess (ks L)[i] k = true := by rw [bl_eq]; exact hb
                have HN2 : Hid (∀ j (h : j < (ks L).length), j < i + 1 → bytesBefore (ks L)[j] k = true) := hide (fun j h hj => by
                  rcases Nat.lt_or_ge j i with h1 | h1
                  · exact HN.out j h h1
                  · obtain rfl : j = i := by omega
                    exact hb)
                generalize (ks L)[i] = y at *
                clear hb HN
                unfold tx at *
                go_wp2
                go_roundw
                case rel => exact ⟨i + 1, by go_num, by omega, HN2, by first | rfl | trivial⟩
                case measure => simp [intOf]; omega
              · have hbf : bytesBefore (ks L)[i] k = false := by simpa using hb
                have hbl : Op.bytesLess (ks L)[i] k = false := by rw [bl_eq]; exact hbf
                have HBF : Hid (bytesBefore (ks L)[i] k = false) := hide hbf
                obtain ⟨y, hy⟩ : ∃ y, y = (ks L)[i] := ⟨_, rfl⟩
                rw [← hy] at hbl hc
                have HY := hide hy
                clear hb hbf hy
                unfold tx at *
                have HP : Hid (put L k p = L.take i ++ (k, p) :: L.drop i) := hide (put_new hh i (fun j hj hji => by have := HN.out j (by omega) hji; simpa [ks] using this) (fun hj => by simpa [ks] using HBF.out))
                clear HN HRD hh
                go_wp2
                refine set10 _ _ rfl rfl HB3.out HNN.out.tags HNN.out.named HNN.out.apart (by omega) (by omega) (by omega) (fun _ _ _ _ _ h => h) ?_
                intro s58 vT' s64 vN' W4 hb4 ot4 on4 hap4 ch4 old4 oldn4
                obtain ⟨g, cap4, hg4⟩ := own_pos ot4 (by simp)
                obtain ⟨g2, cap5, hg5⟩ := own_pos on4 (by simp)
                rw [List.length_append] at hg4 hg5
                simp only [List.length_cons, List.length_nil, Nat.zero_add] at hg4 hg5
                subst hg4 hg5
                have hgg : g ≠ g2 := fun e => hap4 g rfl (by rw [e]; rfl)
                have H4 := hide (And.intro hap4 (And.intro ch4 (And.intro old4 oldn4)))
                have HOT := hide ot4
                have HON := hide on4
                have HB4 := hide hb4
                clear hap4 ch4 old4 oldn4 ot4 on4 hb4 HB3
                simp only [Reg.ov, Act.put, List.setIfInBounds_toArray, List.set_cons_succ, List.set_cons_zero]
                go_wp2
                refine set11 _ _ rfl rfl rfl HB4.out HOT.out hi (by omega) (fun _ _ _ _ _ h => h) ?_
                intro vc z1 W5 hb5 ot5 ch5
                have HON5 := hide (own_keep HON.out fun q hq => ch5.block q (own_ty HON.out hq).2.1 fun e => hgg (e ▸ by simpa [Value.ownBlock] using hq.symm))
                have HOT5 := hide ot5
                have HB5 := hide hb5
                have HC5 := hide ch5
                clear hb5 ot5 ch5
                simp only [Reg.ov, Act.put, List.setIfInBounds_toArray, List.set_cons_succ, List.set_cons_zero]
                go_wp2
                refine set12 _ _ rfl rfl rfl HB5.out HON5.out (by omega) (by omega) (fun _ _ _ _ _ h => h) ?_
                intro vc2 z2 W6 hb6 on6 ch6
                have HOT6 := hide (own_keep HOT5.out fun q hq => ch6.block q (own_ty HOT5.out hq).2.1 fun e => hgg (e ▸ by simpa [Value.ownBlock] using hq))
                have HON6 := hide on6
                have HB6 := hide hb6
                have HC6 := hide ch6
                clear hb6 on6 ch6
                simp only [Reg.ov, Act.put, List.setIfInBounds_toArray, List.set_cons_succ, List.set_cons_zero]
                go_wp2
                refine set13 _ _ rfl rfl rfl rfl rfl HB6.out HOT6.out HON6.out hgg (by rw [mid_len]; omega) (by rw [mid_len]; omega) (fun _ _ _ _ _ h => h) ?_
                intro W7 hb7 ot7 on7 ch7
                have HF := hide (RO.fin HNN.out HC3.out H4.out HC5.out HC6.out hb7 ot7 on7 ch7 HP.out HKP.out (by omega) HOT.out HON.out)
                clear hb7 ot7 on7 ch7
                simp only [Reg.ov, Act.put, List.setIfInBounds_toArray, List.set_cons_succ, List.set_cons_zero]
                go_wp2
                go_ret
                exact ⟨rfl, ⟨_, _, by rw [HS.out]; exact HF.out.1⟩, HF.out.2⟩
            · obtain rfl : i = (ks L).length := by omega
              have HP : Hid (put L k p = L.take (ks L).length ++ (k, p) :: L.drop (ks L).length) := hide (put_new hh (ks L).length (fun j hj hji => by have := HN.out j (by omega) hji; simpa [ks] using this) (fun hj => by omega))
              clear HN HRD hh
              go_wp2
              refine set10 _ _ rfl rfl HB3.out HNN.out.tags HNN.out.named HNN.out.apart (by omega) (by omega) (by omega) (fun _ _ _ _ _ h => h) ?_
              intro s58 vT' s64 vN' W4 hb4 ot4 on4 hap4 ch4 old4 oldn4
              obtain ⟨g, cap4, hg4⟩ := own_pos ot4 (by simp)
              obtain ⟨g2, cap5, hg5⟩ := own_pos on4 (by simp)
              rw [List.length_append] at hg4 hg5
              simp only [List.length_cons, List.length_nil, Nat.zero_add] at hg4 hg5
              subst hg4 hg5
              have hgg : g ≠ g2 := fun e => hap4 g rfl (by rw [e]; rfl)
              have H4 := hide (And.intro hap4 (And.intro ch4 (And.intro old4 oldn4)))
              have HOT := hide ot4
              have HON := hide on4
              have HB4 := hide hb4
              clear hap4 ch4 old4 oldn4 ot4 on4 hb4 HB3
              simp only [Reg.ov, Act.put, List.setIfInBounds_toArray, List.set_cons_succ, List.set_cons_zero]
              go_wp2
              refine set11 _ _ rfl rfl rfl HB4.out HOT.out hi (by omega) (fun _ _ _ _ _ h => h) ?_
              intro vc z1 W5 hb5 ot5 ch5
              have HON5 := hide (own_keep HON.out fun q hq => ch5.block q (own_ty HON.out hq).2.1 fun e => hgg (e ▸ by simpa [Value.ownBlock] using hq.symm))
              have HOT5 := hide ot5
              have HB5 := hide hb5
              have HC5 := hide ch5
              clear hb5 ot5 ch5
              simp only [Reg.ov, Act.put, List.setIfInBounds_toArray, List.set_cons_succ, List.set_cons_zero]
              go_wp2
              refine set12 _ _ rfl rfl rfl HB5.out HON5.out (by omega) (by omega) (fun _ _ _ _ _ h => h) ?_
              intro vc2 z2 W6 hb6 on6 ch6
              have HOT6 := hide (own_keep HOT5.out fun q hq => ch6.block q (own_ty HOT5.out hq).2.1 fun e => hgg (e ▸ by simpa [Value.ownBlock] using hq))
              have HON6 := hide on6
              have HB6 := hide hb6
              have HC6 := hide ch6
              clear hb6 on6 ch6
              simp only [Reg.ov, Act.put, List.setIfInBounds_toArray, List.set_cons_succ, List.set_cons_zero]
              go_wp2
              refine set13 _ _ rfl rfl rfl rfl rfl HB6.out HOT6.out HON6.out hgg (by rw [mid_len]; omega) (by rw [mid_len]; omega) (fun _ _ _ _ _ h => h) ?_
              intro W7 hb7 ot7 on7 ch7
              have HF := hide (RO.fin HNN.out HC3.out H4.out HC5.out HC6.out hb7 ot7 on7 ch7 HP.out HKP.out (by omega) HOT.out HON.out)
              clear hb7 ot7 on7 ch7
              simp only [Reg.ov, Act.put, List.setIfInBounds_toArray, List.set_cons_succ, List.set_cons_zero]
              go_wp2
              go_ret
              exact ⟨rfl, ⟨_, _, by rw [HS.out]; exact HF.out.1⟩, HF.out.2⟩
      · rw [h2] at hip
        by_cases hp0 : p = []
        · exfalso
          rw [hp0] at h2
          exact absurd h2 (by decide)
        have hpb : (p == []) = false := by simpa using hp0
        clear hp0
        unfold tx at *
        go_enter Tryz.func19, Tryz.ntmps19
        go_wp2_with fail
        refine (hik w).mono ?_
        rintro e w1 ⟨rfl, b1⟩
        go_wp2_with fail
        refine (hip w1).mono ?_
        rintro e w2 ⟨rfl, b2'⟩
        have b2 := nx b1 b2'
        clear hik hip b2' b1
        go_wp2_with fail
        refine (hpl w2 b2).mono ?_
        rintro e w3 ⟨rfl, b3⟩
        have b3' := nx b2 b3
        have HR3 := hide (HH.out.later b3')
        have k0 := hc0 w3 b3'
        have k1 := hc1 w3 b3'
        have HC3 := hide (HC.out w3 b3')
        have hz3 : w.heap.size ≤ w3.heap.size := b3'.size
        clear hpl hc0 hc1 b2 b3 HC b3'
        cases hh : has L k with
        | true =>
          obtain ⟨i, hpi, hil, hik2⟩ := pl_key HH.out.srt hh
          have hpsl := ps_len L
          obtain ⟨g2, cap2, hvn⟩ := own_pos HR3.out.named (by omega)
          subst hvn
          obtain ⟨c2, f2, r2, ch2⟩ := HR3.out.setN hil hik2 HKP.out.2
          have HR := hide r2
          have HCH := hide (HC3.out.then ch2 fun _ _ e => e)
          have hil2 : i < (ps L).length := by omega
          rw [hpi]
          generalize (ps L)[i]'hil2 = po at *
          generalize (ps L).length = n2 at *
          clear hpi hik2 r2 ch2 hh
          unfold tx at *
          go_wp2
          go_ret
          exact ⟨rfl, ⟨_, _, by rw [HS.out]; exact HR.out⟩, HCH.out⟩
        | false =>
          rw [plI_lt hh]
          have hksl := ks_len L
          have hpsl := ps_len L
          obtain ⟨ao, cap, hvt, _, hrd⟩ := HR3.out.tags.rd
          have HRD := hide hrd
          subst hvt
          have HB3 := hide HR3.out.box
          have HNN := hide HR3.out
          clear hrd
          go_wp2
          go_loopw [7] (fun u wr => ∃ i : Nat, u = .int .i64 (i : Int) ∧ i ≤ (ks L).length ∧ Hid (∀ j (h : j < (ks L).length), j < i → bytesBefore (ks L)[j] k = true) ∧ wr = w3) (fun u _ => (ks L).length - (intOf u).toNat)
          case atStart => exact ⟨0, rfl, by omega, hide (fun j h h0 => by omega), by first | rfl | trivial⟩
          case round =>
            obtain ⟨i, rfl, hi, HN, rfl⟩ := hrel
            by_cases hlt : i < (ks L).length
            · obtain ⟨b, off, rfl, hbb, hc⟩ := HRD.out i hlt
              by_cases hb : bytesBefore (ks L)[i] k = true
              · have hbl : Op.bytesLess (ks L)[i] k = true := by rw [bl_eq]; exact hb
                have HN2 : Hid (∀ j (h : j < (ks L).length), j < i + 1 → bytesBefore (ks L)[j] k = true) := hide (fun j h hj => by
                  rcases Nat.lt_or_ge j i with h1 | h1
                  · exact HN.out j h h1
                  · obtain rfl : j = i := by omega
                    exact hb)
                generalize (ks L)[i] = y at *
                clear hb HN
                unfold tx at *
                go_wp2
                go_roundw
                case rel => exact ⟨i + 1, by go_num, by omega, HN2, by first | rfl | trivial⟩
                case measure => simp [intOf]; omega
              · have hbf : bytesBefore (ks L)[i] k = false := by simpa using hb
                have hbl : Op.bytesLess (ks L)[i] k = false := by rw [bl_eq]; exact hbf
                have HBF : Hid (bytesBefore (ks L)[i] k = false) := hide hbf
                obtain ⟨y, hy⟩ : ∃ y, y = (ks L)[i] := ⟨_, rfl⟩
                rw [← hy] at hbl hc
                have HY := hide hy
                clear hb hbf hy
                unfold tx at *
                have HP : Hid (put L k p = L.take i ++ (k, p) :: L.drop i) := hide (put_new hh i (fun j hj hji => by have := HN.out j (by omega) hji; simpa [ks] using this) (fun hj => by simpa [ks] using HBF.out))
                clear HN HRD hh
                go_wp2
                refine set10 _ _ rfl rfl HB3.out HNN.out.tags HNN.out.named HNN.out.apart (by omega) (by omega) (by omega) (fun _ _ _ _ _ h => h) ?_
                intro s58 vT' s64 vN' W4 hb4 ot4 on4 hap4 ch4 old4 oldn4
                obtain ⟨g, cap4, hg4⟩ := own_pos ot4 (by simp)
                obtain ⟨g2, cap5, hg5⟩ := own_pos on4 (by simp)
                rw [List.length_append] at hg4 hg5
                simp only [List.length_cons, List.length_nil, Nat.zero_add] at hg4 hg5
                subst hg4 hg5
                have hgg : g ≠ g2 := fun e => hap4 g rfl (by rw [e]; rfl)
                have H4 := hide (And.intro hap4 (And.intro ch4 (And.intro old4 oldn4)))
                have HOT := hide ot4
                have HON := hide on4
                have HB4 := hide hb4
                clear hap4 ch4 old4 oldn4 ot4 on4 hb4 HB3
                simp only [Reg.ov, Act.put, List.setIfInBounds_toArray, List.set_cons_succ, List.set_cons_zero]
                go_wp2
                refine set11 _ _ rfl rfl rfl HB4.out HOT.out hi (by omega) (fun _ _ _ _ _ h => h) ?_
                intro vc z1 W5 hb5 ot5 ch5
                have HON5 := hide (own_keep HON.out fun q hq => ch5.block q (own_ty HON.out hq).2.1 fun e => hgg (e ▸ by simpa [Value.ownBlock] using hq.symm))
                have HOT5 := hide ot5
                have HB5 := hide hb5
                have HC5 := hide ch5
                clear hb5 ot5 ch5
                simp only [Reg.ov, Act.put, List.setIfInBounds_toArray, List.set_cons_succ, List.set_cons_zero]
                go_wp2
                refine set12 _ _ rfl rfl rfl HB5.out HON5.out (by omega) (by omega) (fun _ _ _ _ _ h => h) ?_
                intro vc2 z2 W6 hb6 on6 ch6
                have HOT6 := hide (own_keep HOT5.out fun q hq => ch6.block q (own_ty HOT5.out hq).2.1 fun e => hgg (e ▸ by simpa [Value.ownBlock] using hq))
                have HON6 := hide on6
                have HB6 := hide hb6
                have HC6 := hide ch6
                clear hb6 on6 ch6
                simp only [Reg.ov, Act.put, List.setIfInBounds_toArray, List.set_cons_succ, List.set_cons_zero]
                go_wp2
                refine set13 _ _ rfl rfl rfl rfl rfl HB6.out HOT6.out HON6.out hgg (by rw [mid_len]; omega) (by rw [mid_len]; omega) (fun _ _ _ _ _ h => h) ?_
                intro W7 hb7 ot7 on7 ch7
                have HF := hide (RO.fin HNN.out HC3.out H4.out HC5.out HC6.out hb7 ot7 on7 ch7 HP.out HKP.out (by omega) HOT.out HON.out)
                clear hb7 ot7 on7 ch7
                simp only [Reg.ov, Act.put, List.setIfInBounds_toArray, List.set_cons_succ, List.set_cons_zero]
                go_wp2
                go_ret
                exact ⟨rfl, ⟨_, _, by rw [HS.out]; exact HF.out.1⟩, HF.out.2⟩
            · obtain rfl : i = (ks L).length := by omega
              have HP : Hid (put L k p = L.take (ks L).length ++ (k, p) :: L.drop (ks L).length) := hide (put_new hh (ks L).length (fun j hj hji => by have := HN.out j (by omega) hji; simpa [ks] using this) (fun hj => by omega))
              clear HN HRD hh
              go_wp2
              refine set10 _ _ rfl rfl HB3.out HNN.out.tags HNN.out.named HNN.out.apart (by omega) (by omega) (by omega) (fun _ _ _ _ _ h => h) ?_
              intro s58 vT' s64 vN' W4 hb4 ot4 on4 hap4 ch4 old4 oldn4
              obtain ⟨g, cap4, hg4⟩ := own_pos ot4 (by simp)
              obtain ⟨g2, cap5, hg5⟩ := own_pos on4 (by simp)
              rw [List.length_append] at hg4 hg5
              simp only [List.length_cons, List.length_nil, Nat.zero_add] at hg4 hg5
              subst hg4 hg5
              have hgg : g ≠ g2 := fun e => hap4 g rfl (by rw [e]; rfl)
              have H4 := hide (And.intro hap4 (And.intro ch4 (And.intro old4 oldn4)))
              have HOT := hide ot4
              have HON := hide on4
              have HB4 := hide hb4
              clear hap4 ch4 old4 oldn4 ot4 on4 hb4 HB3
              simp only [Reg.ov, Act.put, List.setIfInBounds_toArray, List.set_cons_succ, List.set_cons_zero]
              go_wp2
              refine set11 _ _ rfl rfl rfl HB4.out HOT.out hi (by omega) (fun _ _ _ _ _ h => h) ?_
              intro vc z1 W5 hb5 ot5 ch5
              have HON5 := hide (own_keep HON.out fun q hq => ch5.block q (own_ty HON.out hq).2.1 fun e => hgg (e ▸ by simpa [Value.ownBlock] using hq.symm))
              have HOT5 := hide ot5
              have HB5 := hide hb5
              have HC5 := hide ch5
              clear hb5 ot5 ch5
              simp only [Reg.ov, Act.put, List.setIfInBounds_toArray, List.set_cons_succ, List.set_cons_zero]
              go_wp2
              refine set12 _ _ rfl rfl rfl HB5.out HON5.out (by omega) (by omega) (fun _ _ _ _ _ h => h) ?_
              intro vc2 z2 W6 hb6 on6 ch6
              have HOT6 := hide (own_keep HOT5.out fun q hq => ch6.block q (own_ty HOT5.out hq).2.1 fun e => hgg (e ▸ by simpa [Value.ownBlock] using hq))
              have HON6 := hide on6
              have HB6 := hide hb6
              have HC6 := hide ch6
              clear hb6 on6 ch6
              simp only [Reg.ov, Act.put, List.setIfInBounds_toArray, List.set_cons_succ, List.set_cons_zero]
              go_wp2
              refine set13 _ _ rfl rfl rfl rfl rfl HB6.out HOT6.out HON6.out hgg (by rw [mid_len]; omega) (by rw [mid_len]; omega) (fun _ _ _ _ _ h => h) ?_
              intro W7 hb7 ot7 on7 ch7
              have HF := hide (RO.fin HNN.out HC3.out H4.out HC5.out HC6.out hb7 ot7 on7 ch7 HP.out HKP.out (by omega) HOT.out HON.out)
              clear hb7 ot7 on7 ch7
              simp only [Reg.ov, Act.put, List.setIfInBounds_toArray, List.set_cons_succ, List.set_cons_zero]
              go_wp2
              go_ret
              exact ⟨rfl, ⟨_, _, by rw [HS.out]; exact HF.out.1⟩, HF.out.2⟩
    · rw [if_neg (fun x => h2 x.2)]
      have HS : Hid (setM L k p = L) := hide (by unfold setM; rw [if_neg (fun x => h2 x.2)])
      have h3 : G.isT p = false := by cases hx : G.isT p with | false => rfl | true => exact absurd (.inr hx) h2
      have hpb : (p == []) = false := by simpa using fun e => h2 (.inl e)
      rw [h1] at hik
      rw [h3] at hip
      clear h2 hpl hc0 hc1
      unfold tx at *
      go_enter Tryz.func19, Tryz.ntmps19
      go_wp2_with fail
      refine (hik w).mono ?_
      rintro e w1 ⟨rfl, b1⟩
      go_wp2_with fail
      refine (hip w1).mono ?_
      rintro e w2 ⟨rfl, b2⟩
      go_wp2
      go_ret
      exact ⟨rfl, ⟨_, _, by rw [HS.out]; exact HH.out.later (nx b1 b2)⟩, HC.out _ (nx b1 b2)⟩
  · rw [if_neg (fun x => h1 x.1)]
    have HS : Hid (setM L k p = L) := hide (by unfold setM; rw [if_neg (fun x => h1 x.1)])
    have h3 : G.isT k = false := by cases hx : G.isT k with | false => rfl | true => exact absurd hx h1
    rw [h3] at hik
    clear h1 hpl hc0 hc1 hip
    unfold tx at *
    go_enter Tryz.func19, Tryz.ntmps19
    go_wp2_with fail
    refine (hik w).mono ?_
    rintro e w1 ⟨rfl, b1⟩
    go_wp2
    go_ret
    exact ⟨rfl, ⟨_, _, by rw [HS.out]; exact HH.out.later b1⟩, HC.out _ b1⟩
end C
end Go.Proofs.YtbeihgjonhgfmaaGreatDoor
