/- The reference's Check and Under. -/
import Derived.Test.YtbeihgjonhgfmaaGreatDoorCrb
namespace Go.Proofs.YtbeihgjonhgfmaaGreatDoor
open Go.RowKit Go.Shelf Go.Maps
attribute [local go_sem] Oper.semAt_some
namespace C
theorem RO.ksl {n0 : Nat} {w : World} {a : Nat} {vT vN : Value} {L : Row} (h : RO n0 w a vT vN L) : ∀ k ∈ ks L, k.length ≤ 40 := by
  intro k hk
  unfold ks at hk
  obtain ⟨y, hy, rfl⟩ := List.mem_map.1 hk
  exact (h.small y hy).1
theorem ownN_app {W w9 : World} {B : Nat} {v cv : Value} {ms : List Tx} {tmp : Obj} (hO : OwnN W B cv ms) (hv : ∀ k, v.ownBlock = some k → k < B) (hg : (W.alloc tmp).grownBy w9 v.ownBlock) : OwnN w9 B cv ms :=
  hO.same fun g _ hgB ho => by
    have hlt := (Array.getElem?_eq_some_iff.1 ho).1
    exact (hg.block g (by simp; omega) (fun e => by have := hv g e.symm; omega)).trans ((Below.heap_alloc _ _ _ hlt).trans ho)
set_option maxRecDepth 100000 in
set_option maxHeartbeats 2000000 in
theorem refCheck_any {n0 : Nat} {w : World} {a : Nat} {vT vN : Value} {L : Row} (h : RO n0 w a vT vN L) (hl : L.length ≤ 1000) :
    Calls Tryz.prog 37 #[.pointer (some ⟨a, 0, none⟩)] w fun e W' => e = .returned (.tuple #[tx (check L).1, .int .i64 ((check L).2 : Int)]) ∧ Below w.heap.size w W' := by
  have hes := elemSize30
  have HKS := hide h.ksl
  have hkl := ks_len L
  have hc0 := fun W (hW : Below w.heap.size w W) => (h.later hW).c0
  have hch := fun W (hW : Below w.heap.size w W) (t : Tx) (ht : t.length ≤ 40) => refChain_any (h.later hW) hl t (by omega)
  have HCK : Hid (check L = match (ks L).find? (fun k => !((chain L k).2 == 0)) with | some k => (k, (chain L k).2) | none => ([], 0)) := hide rfl
  obtain ⟨ao, cap, rfl, _, hrd⟩ := h.tags.rd
  have HRD := hide hrd
  generalize check L = ck at *
  generalize ks L = K at *
  clear h hrd
  unfold tx at *
  go_enter Tryz.func37, Tryz.ntmps37
  go_wp2
  go_loopw [4] (fun u wr => ∃ i : Nat, u = .int .i64 (i : Int) ∧ i ≤ K.length ∧ Hid (∀ t ∈ K.take i, (chain L t).2 = 0) ∧ Below w.heap.size w wr) (fun u _ => K.length - (intOf u).toNat)
  case atStart => exact ⟨0, rfl, by omega, hide (by simp), Below.refl _ _⟩
  case round =>
    obtain ⟨i, rfl, hi, HNO, hb⟩ := hrel
    have c0 := hc0 wr hb
    by_cases hlt : i < K.length
    · obtain ⟨b, off, rfl, hbb, hc⟩ := (HRD.out.later hb) i hlt
      have HT : Hid (K.take (i + 1) = K.take i ++ [K[i]]) := hide (by rw [List.take_succ_eq_append_getElem hlt])
      have HX : Hid (K[i]? = some K[i]) := hide (List.getElem?_eq_getElem hlt)
      have htl := HKS.out _ (List.getElem_mem hlt)
      generalize K[i] = t at *
      have hcw := hch wr hb t htl
      have HB := hide hb
      clear hb hch
      unfold tx AnsH at *
      go_wp2_with fail
      refine hcw.mono ?_
      rintro e w2 ⟨⟨cv, rfl, hco⟩, b2⟩
      have hb2 := nx HB.out b2
      have HB2 := hide hb2
      have c2 := hc0 w2 hb2
      have hc2 := cell_later b2 hc
      clear hcw b2 HB hco hb2 hc0 c0 hc
      by_cases he : (chain L t).2 = 0
      · have HNX : Hid (∀ u ∈ K.take (i + 1), (chain L u).2 = 0) := hide (fun u hu => by
          rw [HT.out] at hu
          rcases List.mem_append.1 hu with hu | hu
          · exact HNO.out u hu
          · rw [List.mem_singleton.1 hu]; exact he)
        rw [he]
        simp only [show ((0 : Nat) : Int) = 0 from rfl]
        clear he
        go_wp2
        go_roundw
        case rel => exact ⟨i + 1, by go_num, by omega, HNX, HB2.out⟩
        case measure => simp [intOf]; omega
      · have HF : Hid (ck = (t, (chain L t).2)) := hide (by
          rw [HCK.out]
          have : K.find? (fun k => !((chain L k).2 == 0)) = some t := by
            rw [List.find?_eq_some_iff_getElem]
            obtain ⟨h1, h2⟩ := List.getElem?_eq_some_iff.1 HX.out
            refine ⟨by simpa using he, i, h1, h2, fun j hj => ?_⟩
            rw [HNO.out K[j] (List.mem_take_iff_getElem.2 ⟨j, by omega, rfl⟩)]
            rfl
          rw [this])
        have g1 : (((chain L t).2 : Int) == 0) = false := by simp; omega
        generalize (chain L t).2 = er at *
        clear he
        go_wp2
        exact bodyPost_ret (v := .tuple #[.string ⟨t.toArray⟩, .int .i64 (er : Int)]) (by simp [results, Tryz.results37, go_sem]) rfl ⟨by rw [HF.out], HB2.out⟩
    · have HF : Hid (ck = ([], 0)) := hide (by
        rw [HCK.out, List.find?_eq_none.2]
        intro t ht
        rw [HNO.out t (by rw [List.take_of_length_le (by omega)]; exact ht)]
        simp)
      have HB := hide hb
      clear hb
      go_wp2
      exact bodyPost_ret (v := .tuple #[.string ⟨#[]⟩, .int .i64 0]) (by simp [results, Tryz.results37, go_sem]) rfl ⟨by rw [HF.out]; rfl, HB.out⟩
set_option maxRecDepth 100000 in
set_option maxHeartbeats 2000000 in
theorem refUnder_any {n0 : Nat} {w : World} {a : Nat} {vT vN : Value} {L : Row} (h : RO n0 w a vT vN L) (hl : L.length ≤ 1000) (x : Tx) :
    Calls Tryz.prog 39 #[.pointer (some ⟨a, 0, none⟩), tx x] w fun e W' => ∃ v, e = .returned v ∧ OwnN W' w.heap.size v (under L x) ∧ Below w.heap.size w W' := by
  obtain ⟨i0, hi0, hz0, hz1, hz2⟩ := info_parts9 info9N
  have hes := elemSize30
  have HKS := hide h.ksl
  have hkl := ks_len L
  have hc0 := fun W (hW : Below w.heap.size w W) => (h.later hW).c0
  have hch := fun W (hW : Below w.heap.size w W) (t : Tx) (ht : t.length ≤ 40) => refChain_any (h.later hW) hl t (by omega)
  have HU : Hid (under L x = (ks L).filter (hasB L x)) := hide (under_has L x)
  have HOK : Hid (∀ t, (chain L t).2 = 0 → (chain L t).1.Nodup ∧ 1 ≤ (chain L t).1.length ∧ (chain L t).1.length ≤ 6) := hide (fun t ht => by
    obtain ⟨r, h1, h2, h3, _⟩ := chain_ok ht
    rw [h1]; exact ⟨h2, by simp, h3⟩)
  obtain ⟨ao, cap, rfl, _, hrd⟩ := h.tags.rd
  have HRD := hide hrd
  generalize under L x = un at *
  generalize ks L = K at *
  clear h hrd
  unfold tx at *
  go_enter Tryz.func39, Tryz.ntmps39
  go_wp2
  go_loopw [5, 6] (fun v u wr => ∃ (i : Nat) (ss : List Tx), u = .int .i64 (i : Int) ∧ i ≤ K.length ∧ ss.length ≤ i ∧ OwnN wr w.heap.size v ss ∧ Hid (ss = (K.take i).filter (hasB L x)) ∧ Below w.heap.size w wr) (fun _ u _ => K.length - (intOf u).toNat)
  case atStart => exact ⟨0, [], rfl, by omega, by simp, ownN_nil _ _, hide (by simp), Below.refl _ _⟩
  case round =>
    obtain ⟨i, ss, rfl, hi, hsl, hO, HSS, hb⟩ := hrel
    have c0 := hc0 wr hb
    by_cases hlt : i < K.length
    · obtain ⟨b, off, rfl, hbb, hct0⟩ := HRD.out i hlt
      have HCT := hide hct0
      have hc := cell_later hb hct0
      have htl := HKS.out _ (List.getElem_mem hlt)
      clear hct0
      have HT : Hid ((K.take (i + 1)).filter (hasB L x) = ss ++ if hasB L x K[i] then [K[i]] else []) := hide (by
        rw [List.take_succ_eq_append_getElem hlt, List.filter_append, ← HSS.out]
        simp only [List.filter_cons, List.filter_nil])
      generalize K[i] = t at *
      have hcw := hch wr hb t htl
      have HB := hide hb
      have HO := hide hO
      have hbz := hb.size
      have hokt := HOK.out t
      have HHB : Hid (hasB L x t = ((chain L t).2 == 0 && ((chain L t).1.drop 1).contains x)) := hide rfl
      generalize hasB L x t = hB at *
      clear hb hch hO HSS
      unfold tx AnsH at *
      generalize chain L t = ct at *
      obtain ⟨ms, er⟩ := ct
      simp only at hcw hokt HHB
      go_wp2_with fail
      refine hcw.mono ?_
      rintro e w2 ⟨⟨cv, rfl, hco⟩, b2⟩
      have hb2 := nx HB.out b2
      have HB2 := hide hb2
      have HO2 := hide (HO.out.later b2)
      have HCO := hide hco
      have hb2z := b2.size
      have HLT := hide HO.out.lt
      have hc2 := cell_later b2 hc
      clear hcw b2 HB hb2 c0 hc HO hco
      by_cases he : er = 0
      · subst he
        obtain ⟨hnd, hm1, hm6⟩ := hokt rfl
        have HND := hide hnd
        obtain ⟨ao2, cap2, rfl, _, hrd2⟩ := HCO.out.rd
        obtain ⟨lb, lof, rfl, _⟩ := RdT.at hrd2 (by omega)
        obtain ⟨v0, hv0⟩ : ∃ v, v = u5 := ⟨u5, rfl⟩
        have HLT0 : Hid (∀ k, v0.ownBlock = some k → k < wr.heap.size) := hide (fun k hk => (HLT.out k (hv0 ▸ hk)).2)
        have hz0' := hbz
        clear hokt hnd hrd2 HLT
        simp only [show ((0 : Nat) : Int) = 0 from rfl]
        have hd : decide (i < L.length) = true := decide_eq_true (by omega)
        go_wp2
        simp only [hd]
        go_loopw [5, 9] (fun v u wq => ∃ j : Nat, u = .int .i64 (j : Int) ∧ 1 ≤ j ∧ j ≤ ms.length ∧ Hid (OwnN wq wr.heap.size (.slice (some ⟨lb, lof, none⟩) ms.length cap2) ms) ∧ Hid (Below w.heap.size w wq) ∧ wr.heap.size ≤ wq.heap.size ∧ ((v = v0 ∧ Hid (OwnN wq w.heap.size v ss ∧ ∀ k (h : k < ms.length), 1 ≤ k → k < j → ¬ ms[k] = x)) ∨ Hid (OwnN wq w.heap.size v (ss ++ [t]) ∧ ∃ k, ∃ h : k < ms.length, 1 ≤ k ∧ k < j ∧ ms[k] = x))) (fun _ u _ => ms.length - (intOf u).toNat)
        case atStart => exact ⟨1, rfl, by omega, hm1, HCO, HB2, hb2z, .inl ⟨hv0.symm, hide ⟨HO2.out, fun k _ h1 h2 => by omega⟩⟩⟩
        case round =>
          obtain ⟨j, rfl, h1j, hj, HC, HB3, hz3, hcase⟩ := hrel
          by_cases hjl : j < ms.length
          · obtain ⟨ao', cap', e', _, hrd'⟩ := HC.out.rd
            obtain ⟨e1, e2⟩ : ao' = some ⟨lb, lof, none⟩ ∧ cap' = cap2 := by injection e' with e1 _ e2; exact ⟨e1.symm, e2.symm⟩
            subst e1 e2
            have hcj : wr.cell? ⟨lb, lof + j, none⟩ = some (tx ms[j]) := by
              obtain ⟨b', off', e3, _, h3⟩ := hrd' j hjl
              injection e3 with e3
              injection e3 with e4 e5 e6
              subst e4 e5
              exact h3
            have hlbz : lb < wr.heap.size := by
              obtain ⟨b', off', e3, h4, h3⟩ := hrd' j hjl
              injection e3 with e3
              injection e3 with e4 e5 e6
              subst e4 e5
              exact h4
            clear e' hrd'
            by_cases hq : ms[j] = x
            · rcases hcase with ⟨rfl, HA⟩ | HA
              · have c3 := hc0 wr HB3.out
                have hct : wr.cell? ⟨b, off + i, none⟩ = some (.string ⟨t.toArray⟩) := cell_later HB3.out HCT.out
                have rO : wr.ownsRow w.heap.size 9 1 u5 ss.length (ss.map tx) := HA.out.1
                have hb3z := HB3.out.size
                have HA2 := hide HA.out.1
                have HK : Hid (∃ k, ∃ h : k < ms.length, 1 ≤ k ∧ k < j + 1 ∧ ms[k] = x) := hide ⟨j, hjl, h1j, by omega, hq⟩
                rw [hq] at hcj
                have he : (x == x) = true := by simp
                clear HA hq
                unfold tx at hcj
                go_wp2_with (at_builtin; refine wpList_append_own_at _ rfl _ _ 30 rfl w.heap.size 9 i0 (.string ByteArray.empty) 1 16 Tryz.underlying30 hi0 hz0 hz1 hz2 rfl (by decide) _ _ _ rfl (rO.alloc _) ⟨wr.heap.size, 0, none⟩ 1 1 [.string ⟨t.toArray⟩] rfl rfl (one_new _ _ _) (by simp [Value.oneCell']) (by unfold maxLen; omega) (by omega) (by simp; omega) ?_; intro v9 w9 hown9 hgrow9 _ hat9; obtain ⟨g9, cap9, rfl⟩ := ownsRow_succ hown9)
                have fin := own_app HA2.out (by omega) hown9 hgrow9
                have HC9 := ownN_app HC.out HLT0.out hgrow9
                go_roundw
                case rel => exact ⟨j + 1, by go_num, by omega, by omega, hide HC9, hide (HB3.out.trans fin.2), by have := fin.2.size; omega, .inr (hide ⟨fin.1, HK.out⟩)⟩
                case measure => simp [intOf]; omega
              · exfalso
                obtain ⟨_, k, hk, h1k, hkj, hkx⟩ := HA.out
                have := (List.getElem_inj HND.out (h₀ := hk) (h₁ := hjl)).1 (hkx.trans hq.symm)
                omega
            · have hcase2 : (u5 = v0 ∧ Hid (OwnN wr w.heap.size u5 ss ∧ ∀ k (h : k < ms.length), 1 ≤ k → k < j + 1 → ¬ ms[k] = x)) ∨ Hid (OwnN wr w.heap.size u5 (ss ++ [t]) ∧ ∃ k, ∃ h : k < ms.length, 1 ≤ k ∧ k < j + 1 ∧ ms[k] = x) := by
                rcases hcase with ⟨h1, HA⟩ | HA
                · exact .inl ⟨h1, hide ⟨HA.out.1, fun k hk h1k hkj => by
                    rcases Nat.lt_or_ge k j with h2 | h2
                    · exact HA.out.2 k hk h1k h2
                    · obtain rfl : k = j := by omega
                      exact hq⟩⟩
                · obtain ⟨h1, k, hk, h1k, hkj, hkx⟩ := HA.out
                  exact .inr (hide ⟨h1, k, hk, h1k, by omega, hkx⟩)
              have HCS := hide hcase2
              have he : (ms[j] == x) = false := by simpa using hq
              generalize ms[j] = y at *
              clear hq hcase hcase2
              unfold tx at *
              go_wp2
              go_roundw
              case rel => exact ⟨j + 1, by go_num, by omega, by omega, HC, HB3, hz3, HCS.out⟩
              case measure => simp [intOf]; omega
          · have HFF : Hid (∃ s2 : List Tx, s2.length ≤ i + 1 ∧ OwnN wr w.heap.size u5 s2 ∧ s2 = (K.take (i + 1)).filter (hasB L x)) := hide (by
              have hc : (ms.drop 1).contains x = true ↔ ∃ k, ∃ h : k < ms.length, 1 ≤ k ∧ k < j ∧ ms[k] = x := by
                rw [List.contains_iff_mem, List.mem_iff_getElem]
                constructor
                · rintro ⟨k, hk, e⟩
                  rw [List.length_drop] at hk
                  rw [List.getElem_drop] at e
                  exact ⟨1 + k, by omega, by omega, by omega, e⟩
                · rintro ⟨k, hk, h1, h2, e⟩
                  refine ⟨k - 1, by rw [List.length_drop]; omega, ?_⟩
                  rw [List.getElem_drop]
                  simpa [show 1 + (k - 1) = k by omega] using e
              rcases hcase with ⟨rfl, HA⟩ | HA
              · refine ⟨ss, by omega, HA.out.1, ?_⟩
                have hf : (ms.drop 1).contains x = false := by
                  cases h : (ms.drop 1).contains x with
                  | false => rfl
                  | true =>
                    obtain ⟨k, hk, h1, h2, e⟩ := hc.1 h
                    exact absurd e (HA.out.2 k hk h1 h2)
                rw [HT.out, HHB.out, hf]
                simp
              · refine ⟨ss ++ [t], by simp; omega, HA.out.1, ?_⟩
                rw [HT.out, HHB.out, hc.2 HA.out.2]
                simp)
            clear hcase HT HHB HC
            go_wp2
            go_roundw
            case rel =>
              obtain ⟨s2, h1, h2, h3⟩ := HFF.out
              exact ⟨i + 1, s2, by go_num, by omega, h1, h2, hide h3, HB3.out⟩
            case measure => simp [intOf]; omega
      · have HF : Hid (ss = (K.take (i + 1)).filter (hasB L x)) := hide (by
          rw [HT.out, HHB.out]; simp [he])
        have g1 : ((er : Int) == 0) = false := by simp; omega
        clear HT HHB hokt he
        obtain ⟨ao2, cap2, rfl, _, _⟩ := HCO.out.rd
        go_wp2
        go_loopw [5, 9] (fun v u wq => v = u5 ∧ u = .int .i64 1 ∧ wq = w2) (fun _ _ _ => 0)
        case atStart => exact ⟨rfl, rfl, by first | rfl | trivial⟩
        case round =>
          obtain ⟨rfl, rfl, rfl⟩ := hrel
          go_wp2
          go_roundw
          case rel => exact ⟨i + 1, ss, by go_num, by omega, by omega, HO2.out, HF, HB2.out⟩
          case measure => simp [intOf]; omega
    · have HF : Hid (un = ss) := hide (by
        rw [HU.out, HSS.out, List.take_of_length_le (by omega)])
      have HB := hide hb
      have HO := hide hO
      clear hb hO
      go_wp2
      go_ret
      exact ⟨_, rfl, by rw [HF.out]; exact HO.out, HB.out⟩
end C
end Go.Proofs.YtbeihgjonhgfmaaGreatDoor
