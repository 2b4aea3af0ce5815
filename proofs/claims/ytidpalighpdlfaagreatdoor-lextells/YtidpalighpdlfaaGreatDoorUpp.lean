/- strings.ToUpper of a text whose bytes are all below 128; hexText of lex. -/
import Derived.Test.YtidpalighpdlfaaGreatDoorGrw
namespace Go.Proofs.YtidpalighpdlfaaGreatDoor
open Go.RowKit

def isLow (c : UInt8) : Bool := decide (97 ≤ c.toNat) && decide (c.toNat ≤ 122)
def up (c : UInt8) : UInt8 := if isLow c then (c.toNat - 32).toUInt8 else c
theorem up_low {c : UInt8} (h : isLow c = true) : (c.toNat : Int) - 32 = ((up c).toNat : Int) := by
  have hc := c.toNat_lt
  unfold up
  rw [if_pos h]
  simp only [isLow, Bool.and_eq_true, decide_eq_true_eq] at h
  simp
  omega
theorem map_same : ∀ (l : List UInt8), (∀ c ∈ l, isLow c = false) → l.map up = l
  | [], _ => rfl
  | c :: l, h => by
    rw [List.map_cons, map_same l (fun x hx => h x (by simp [hx]))]
    congr 1
    unfold up
    rw [if_neg (by rw [h c (by simp)]; decide)]
/-- What is copied as it stands, behind what was turned. -/
theorem up_step {l : List UInt8} {p i : Nat} (hpi : p ≤ i) (h : ∀ c ∈ (l.drop p).take (i - p), isLow c = false) : (l.take p).map up ++ (l.drop p).take (i - p) = (l.take i).map up := by
  have e : l.take i = l.take p ++ (l.drop p).take (i - p) := by
    rw [← List.take_add, Nat.add_sub_cancel' hpi]
  rw [e, List.map_append, map_same _ h]
set_option maxRecDepth 100000 in
set_option maxHeartbeats 600000 in
theorem upper_any (s : ByteArray) (hs : s.size ≤ 100000) (hasc : ∀ c ∈ bts s, c.toNat < 128) (w : World) : Calls Tryz.prog 45 #[.string s] w fun e w' => e = .returned (.string ⟨((bts s).map up).toArray⟩) ∧ Below w.heap.size w w' := by
  have HA := hide hasc
  clear hasc
  have hGr := fun h1 => Grow_any s.size h1 (by omega) w
  have HG := hide hGr
  clear hGr
  go_enter Tryz.func45, Tryz.ntmps45
  go_wp2
  go_loopw [3, 4, 5] (fun q h u wr => q = .bool true ∧ ∃ i : Nat, u = .int .i64 (i : Int) ∧ i ≤ s.size ∧ h = .bool (((bts s).take i).any isLow) ∧ wr = w) (fun _ _ u _ => s.size - (intOf u).toNat)
  case atStart => exact ⟨rfl, 0, rfl, Nat.zero_le _, rfl, by first | rfl | trivial⟩
  case round =>
    obtain ⟨rfl, i, rfl, hi, rfl, hwr⟩ := hrel
    obtain rfl := hwr.symm
    clear hwr
    by_cases hlt : i < s.size
    · have hl : i < (bts s).length := hlt
      have hx := fun j hj h => idx_at (s := s) hl j hj h
      have hc := HA.out ((bts s)[i]) (List.getElem_mem hl)
      have HT : Hid (((bts s).take (i + 1)).any isLow = (((bts s).take i).any isLow || isLow (bts s)[i])) := hide (by rw [take_snoc0 hl, List.any_append, List.any_cons, List.any_nil, Bool.or_false])
      generalize (bts s)[i] = c at *
      have hx2 : ∀ h, s[i]'h = c := fun h => hx (i : Int) rfl h
      clear hx
      have g1 : decide ((128 : Int) ≤ (c.toNat : Int)) = false := decide_eq_false (by omega)
      generalize ((bts s).take i).any isLow = b at *
      cases b with
      | true =>
        have HT2 : Hid (((bts s).take (i + 1)).any isLow = true) := hide (by rw [HT.out]; rfl)
        clear HT
        go_wp2
        go_roundw
        case rel => exact ⟨rfl, i + 1, by go_num, by omega, by rw [HT2.out], by first | rfl | trivial⟩
        case measure => simp [intOf]; omega
      | false =>
        by_cases h97 : 97 ≤ c.toNat
        · have g2 : decide ((97 : Int) ≤ (c.toNat : Int)) = true := decide_eq_true (by omega)
          have g3 : decide ((c.toNat : Int) ≤ 122) = isLow c := by
            unfold isLow
            rw [decide_eq_true h97, Bool.true_and]
            exact decide_eq_decide.2 (by omega)
          have HT2 : Hid (((bts s).take (i + 1)).any isLow = isLow c) := hide (by rw [HT.out]; rfl)
          clear HT
          generalize isLow c = lo at *
          go_wp2
          go_roundw
          case rel => exact ⟨rfl, i + 1, by go_num, by omega, by rw [HT2.out], by first | rfl | trivial⟩
          case measure => simp [intOf]; omega
        · have g2 : decide ((97 : Int) ≤ (c.toNat : Int)) = false := decide_eq_false (by omega)
          have HT2 : Hid (((bts s).take (i + 1)).any isLow = false) := hide (by rw [HT.out]; simp [isLow]; omega)
          clear HT
          go_wp2
          go_roundw
          case rel => exact ⟨rfl, i + 1, by go_num, by omega, by rw [HT2.out], by first | rfl | trivial⟩
          case measure => simp [intOf]; omega
    · obtain rfl : i = s.size := by omega
      have hall : (bts s).take s.size = bts s := List.take_of_length_le (Nat.le_refl _)
      rw [hall]
      clear hall
      cases hany : (bts s).any isLow with
      | false =>
        have HE : Hid ((bts s).map up = bts s) := hide (map_same _ (fun c hc => by
          rw [List.any_eq_false] at hany
          simpa using hany c hc))
        clear HA HG hany
        go_wp2
        go_ret
        exact ⟨by rw [HE.out]; rfl, Below.refl _ _⟩
      | true =>
        have h1 : 1 ≤ s.size := by
          cases hb : bts s with
          | nil => rw [hb] at hany; cases hany
          | cons _ _ =>
            have := congrArg List.length hb
            rw [bts_len, List.length_cons] at this
            omega
        have hg := HG.out h1
        clear HA HG hany
        go_wp2_with fail
        refine hg.mono ?_
        rintro e w1 ⟨rfl, hB, hb⟩
        clear hg
        go_wp2
        go_loopw [8, 9] (fun q u wr => ∃ (p i : Nat), q = .int .i64 (p : Int) ∧ u = .int .i64 (i : Int) ∧ p ≤ i ∧ i ≤ s.size ∧ Hid (∀ c ∈ ((bts s).drop p).take (i - p), isLow c = false) ∧ Bd w.heap.size w.heap.size (((bts s).take p).map up) wr ∧ Below w.heap.size w wr) (fun _ u _ => s.size - (intOf u).toNat)
        case atStart => exact ⟨0, 0, rfl, rfl, Nat.le_refl _, Nat.zero_le _, hide (by simp), hB, hb⟩
        case round =>
          obtain ⟨p, i, rfl, rfl, hpi, hi, HN, hB, hb⟩ := hrel
          have HS := hide (up_step (l := bts s) hpi HN.out)
          by_cases hlt : i < s.size
          · have hl : i < (bts s).length := hlt
            have hx := fun j hj h => idx_at (s := s) hl j hj h
            have HT := hide (take_snoc0 hl)
            have HD : Hid (((bts s).drop p).take (i + 1 - p) = ((bts s).drop p).take (i - p) ++ [(bts s)[i]]) := hide (by
              have := take_snoc (l := bts s) (k := p) (n := i - p) (by omega)
              rw [show i - p + 1 = i + 1 - p by omega] at this
              rw [this]
              congr 2
              congr 1
              omega)
            generalize (bts s)[i] = c at *
            have hx2 : ∀ h, s[i]'h = c := fun h => hx (i : Int) rfl h
            clear hx
            cases hlow : isLow c with
            | false =>
              have hcase : decide ((97 : Int) ≤ (c.toNat : Int)) = false ∨ (decide ((97 : Int) ≤ (c.toNat : Int)) = true ∧ decide ((c.toNat : Int) ≤ 122) = false) := by
                simp only [isLow, Bool.and_eq_false_iff, decide_eq_false_iff_not] at hlow
                by_cases h : 97 ≤ c.toNat
                · exact .inr ⟨decide_eq_true (by omega), decide_eq_false (by omega)⟩
                · exact .inl (decide_eq_false (by omega))
              have HN2 : Hid (∀ x ∈ ((bts s).drop p).take (i + 1 - p), isLow x = false) := hide (fun x hx => by
                rw [HD.out] at hx
                exact (List.mem_append.1 hx).elim (HN.out x) (fun h => by simp at h; rw [h]; exact hlow))
              clear HN HS HT HD hlow
              rcases hcase with g1 | ⟨g1, g2⟩
              all_goals
                go_wp2
                go_roundw
                case rel => exact ⟨p, i + 1, rfl, by go_num, by omega, by omega, HN2, hB, hb⟩
                case measure => simp [intOf]; omega
            | true =>
              have hup := up_low hlow
              have hr : 97 ≤ c.toNat ∧ c.toNat ≤ 122 := by simpa [isLow] using hlow
              have g1 : decide ((97 : Int) ≤ (c.toNat : Int)) = true := decide_eq_true (by omega)
              have g2 : decide ((c.toNat : Int) ≤ 122) = true := decide_eq_true (by omega)
              have HM : Hid (((bts s).take (i + 1)).map up = ((bts s).take i).map up ++ [up c]) := hide (by rw [HT.out, List.map_append]; rfl)
              clear HN HT HD hlow
              by_cases hpl : p < i
              · have g3 : decide ((p : Int) < (i : Int)) = true := decide_eq_true (by omega)
                have hw1 := wstr_any w.heap.size w.heap.size (((bts s).take p).map up) (s.extract p i) wr hB (by rw [List.length_map, List.length_take]; omega) (by rw [ext_size _ _ _ hi]; omega) hb.size
                rw [bts_ext, HS.out] at hw1
                go_wp2_with fail
                refine hw1.mono ?_
                rintro e w2 ⟨rfl, hB2, hb2⟩
                have hbb := hb.trans hb2
                have hw2 := wbyte_any w.heap.size w.heap.size (((bts s).take i).map up) (up c) w2 hB2 (by rw [List.length_map, List.length_take]; omega) hbb.size
                unfold U8 at hw2
                rw [← HM.out] at hw2
                go_wp2_with fail
                refine hw2.mono ?_
                rintro e w3 ⟨rfl, hB3, hb3⟩
                clear hw1 hw2
                go_wp2
                go_roundw
                case rel => exact ⟨i + 1, i + 1, by go_num, by go_num, by omega, by omega, hide (by simp), hB3, hbb.trans hb3⟩
                case measure => simp [intOf]; omega
              · obtain rfl : p = i := by omega
                have g3 : decide ((p : Int) < (p : Int)) = false := decide_eq_false (by omega)
                have hw2 := wbyte_any w.heap.size w.heap.size (((bts s).take p).map up) (up c) wr hB (by rw [List.length_map, List.length_take]; omega) hb.size
                unfold U8 at hw2
                rw [← HM.out] at hw2
                go_wp2_with fail
                refine hw2.mono ?_
                rintro e w3 ⟨rfl, hB3, hb3⟩
                clear hw2
                go_wp2
                go_roundw
                case rel => exact ⟨p + 1, p + 1, by go_num, by go_num, by omega, by omega, hide (by simp), hB3, hb.trans hb3⟩
                case measure => simp [intOf]; omega
          · obtain rfl : i = s.size := by omega
            have HF : Hid (((bts s).take s.size).map up = (bts s).map up) := hide (by rw [show (bts s).take s.size = bts s from List.take_of_length_le (Nat.le_refl _)])
            by_cases hpl : p < s.size
            · have g3 : decide ((p : Int) < (s.size : Int)) = true := decide_eq_true (by omega)
              have hw1 := wstr_any w.heap.size w.heap.size (((bts s).take p).map up) (s.extract p s.size) wr hB (by rw [List.length_map, List.length_take]; omega) (by rw [extract_size]; omega) hb.size
              rw [bts_ext, HS.out, HF.out] at hw1
              clear HS HN
              go_wp2_with fail
              refine hw1.mono ?_
              rintro e w2 ⟨rfl, hB2, hb2⟩
              have hbb := hb.trans hb2
              have hst := bstr_any w.heap.size w.heap.size _ w2 hB2 hbb.size
              go_wp2_with fail
              refine hst.mono ?_
              rintro e w3 ⟨rfl, hb3⟩
              go_wp2
              go_ret
              exact ⟨rfl, hbb.trans hb3⟩
            · obtain rfl : p = s.size := by omega
              have g3 : decide ((s.size : Int) < (s.size : Int)) = false := decide_eq_false (by omega)
              rw [HF.out] at hB
              have hst := bstr_any w.heap.size w.heap.size _ wr hB hb.size
              clear HS HN
              go_wp2_with fail
              refine hst.mono ?_
              rintro e w3 ⟨rfl, hb3⟩
              go_wp2
              go_ret
              exact ⟨rfl, hb.trans hb3⟩

theorem up_hex : ∀ d, d < 16 → up (hexl d) = X.hexc d := by decide
theorem hexl_low : ∀ d, d < 16 → (hexl d).toNat < 128 := by decide
theorem hexs_up : ∀ n, (hexs n).map up = X.hexd n := by
  intro n
  induction n using Nat.strongRecOn with
  | _ n ih =>
    by_cases h : n < 16
    · rw [hexs_small h, X.hexd_small h, List.map_cons, up_hex n h]; rfl
    · rw [hexs_big h, X.hexd_big h, List.map_append, ih (n / 16) (by omega), List.map_cons, up_hex (n % 16) (by omega)]; rfl
theorem hexs_low : ∀ n, ∀ c ∈ hexs n, c.toNat < 128 := by
  intro n
  induction n using Nat.strongRecOn with
  | _ n ih =>
    intro c hc
    by_cases h : n < 16
    · rw [hexs_small h] at hc
      simp at hc
      rw [hc]
      exact hexl_low n h
    · rw [hexs_big h] at hc
      rcases List.mem_append.1 hc with hc | hc
      · exact ih (n / 16) (by omega) c hc
      · simp at hc
        rw [hc]
        exact hexl_low (n % 16) (by omega)
set_option maxHeartbeats 1000000 in
theorem hext_any (n : Nat) (hn : n ≤ 2147483647) (w : World) (hd : Deb w) : Calls Tryz.prog 30 #[.int .i32 (n : Int)] w fun e w' => e = .returned (.string ⟨(X.hexd n).toArray⟩) ∧ Below w.heap.size w w' := by
  have hf := fint_any n hn w hd
  have hu := fun W => upper_any ⟨(hexs n).toArray⟩ (by have := hexs_len 7 n (by omega); show (hexs n).toArray.size ≤ _; simp; omega) (hexs_low n) W
  rw [show (bts ⟨(hexs n).toArray⟩).map up = X.hexd n from hexs_up n] at hu
  generalize hexs n = o at *
  generalize X.hexd n = o2 at *
  clear hd
  go_enter Tryz.func30, Tryz.ntmps30
  go_wp2_with fail
  refine hf.mono ?_
  rintro e w1 ⟨rfl, hb1⟩
  go_wp2_with fail
  refine (hu w1).mono ?_
  rintro e w2 ⟨rfl, hb2⟩
  go_wp2
  go_ret
  exact ⟨rfl, nx hb1 hb2⟩
end Go.Proofs.YtidpalighpdlfaaGreatDoor
