/- The reference's Canon, Is and Parent. -/
import Derived.Test.YtbeihgjonhgfmaaGreatDoorTgv
namespace Go.Proofs.YtbeihgjonhgfmaaGreatDoor
open Go.RowKit Go.Shelf

set_option maxRecDepth 100000 in
set_option maxHeartbeats 2000000 in
theorem refC_long (s : List UInt8) (h40 : 40 < s.length) (hs : s.length ≤ 1000) (w : World) : Calls Tryz.prog 55 #[tx s] w fun e w' => AnsR s e ∧ Below w.heap.size w w' := by
  have HF : Hid (G.canon s = none) := hide (by unfold G.canon; rw [if_pos h40])
  have hz := sz_tx s
  unfold tx
  go_enter Tryz.func55, Tryz.ntmps55
  go_wp2
  go_ret2
  exact ⟨.inr ⟨HF.out, rfl⟩, Below.refl _ _⟩
set_option maxRecDepth 100000 in
set_option maxHeartbeats 2000000 in
theorem refC_root (s : List UInt8) (h40 : s.length ≤ 40) (hr : s.map G.lo = G.rootB) (w : World) : Calls Tryz.prog 55 #[tx s] w fun e w' => AnsR s e ∧ Below w.heap.size w w' := by
  have HF : Hid (G.canon s = some G.rootB) := hide (by unfold G.canon; rw [if_neg (by omega), if_pos hr])
  have hz := sz_tx s
  have h26 := small_any s (by omega) w
  rw [hr] at h26
  clear hr
  unfold tx G.rootB at *
  go_enter Tryz.func55, Tryz.ntmps55
  go_wp2_with fail
  with_reducible refine h26.mono ?_
  rintro e w1 ⟨rfl, b1⟩
  go_wp2
  go_ret2
  exact ⟨.inl ⟨_, HF.out, rfl⟩, b1⟩
set_option maxRecDepth 100000 in
set_option maxHeartbeats 4000000 in
theorem refC_0 (s : List UInt8) (h40 : s.length ≤ 40) (hr : ¬ s.map G.lo = G.rootB) (x0 : List UInt8) (rest cs : List (List UInt8)) (hcs : G.cut s = cs) (hcs0 : cs = x0 :: rest) (hl : G.lang x0 = false) (w : World) : Calls Tryz.prog 55 #[tx s] w fun e w' => AnsR s e ∧ Below w.heap.size w w' := by
  have HF := hide (G.ref_none h40 hr (hcs.trans hcs0) hl)
  have hz := sz_tx s
  have g40 : decide ((40 : Int) < (s.length : Int)) = false := decide_eq_false (by omega)
  have h26 := small_any s (by omega) w
  have e0 : (s.map G.lo == [114, 111, 111, 116]) = false := beq_eq_false_iff_ne.2 hr
  have h16 := fun W => split_any s (by omega) W
  have hx40 : x0.length ≤ 40 := by have := cut_lens s x0 (by rw [hcs, hcs0]; simp); omega
  have hcl := size_parts s
  rw [hcs] at h16 hcl
  have es := elemSize30
  have hn1 : 0 < cs.length := by rw [hcs0]; simp
  have HX0 : Hid (cs[0] = x0) := hide (by subst hcs0; rfl)
  have z0 := sz_tx x0
  generalize s.map G.lo = ls at *
  clear hcs hcs0 hr
  unfold tx at h26 ⊢
  go_enter Tryz.func55, Tryz.ntmps55
  go_wp2_with fail
  with_reducible refine h26.mono ?_
  rintro e w1 ⟨rfl, b1⟩
  unfold tx at h16
  go_wp2_with fail
  with_reducible refine (h16 w1).mono ?_
  rintro e w2 ⟨u, rfl, ho, b2⟩
  have HB2 := hide (nx b1 b2)
  obtain ⟨ao, cap, rfl, hcap, hrd⟩ := ho.rd
  obtain ⟨b, off, rfl, hbs, hc0⟩ := hrd 0 hn1
  rw [HX0.out, Nat.add_zero] at hc0
  clear h26 h16 b1 b2 ho hrd hbs HX0
  unfold tx at hc0
  by_cases a2 : 2 ≤ x0.length
  · by_cases a3 : x0.length ≤ 3
    · have hal : x0.all G.isL = false := by
        unfold G.lang G.run at hl
        rw [decide_eq_true a2, decide_eq_true a3] at hl
        simpa using hl
      have h27 := allL_any x0 (by omega) w2
      rw [hal] at h27
      unfold tx at h27
      clear hal hl
      go_wp2_with fail
      with_reducible refine h27.mono ?_
      rintro e w3 ⟨rfl, rfl⟩
      go_wp2
      go_ret2
      exact ⟨.inr ⟨HF.out, rfl⟩, HB2.out⟩
    · clear hl
      go_wp2
      go_ret2
      exact ⟨.inr ⟨HF.out, rfl⟩, HB2.out⟩
  · clear hl
    go_wp2
    go_ret2
    exact ⟨.inr ⟨HF.out, rfl⟩, HB2.out⟩
theorem refCanon_any (s : List UInt8) (hs : s.length ≤ 1000) (w : World) : Calls Tryz.prog 55 #[tx s] w fun e w' => AnsR s e ∧ Below w.heap.size w w' := by
  by_cases h40 : 40 < s.length
  · exact refC_long s h40 hs w
  · by_cases hr : s.map G.lo = G.rootB
    · exact refC_root s (by omega) hr w
    · obtain ⟨x0, rest, hc⟩ : ∃ x0 rest, G.cut s = x0 :: rest := by
        cases h : G.cut s with
        | nil => exact absurd h (G.cut_ne s)
        | cons x xs => exact ⟨x, xs, rfl⟩
      cases hl : G.lang x0 with
      | false => exact refC_0 s (by omega) hr x0 rest _ rfl hc hl w
      | true =>
        cases hre : rest with
        | nil => exact refC_1 s (by omega) hr x0 rest _ rfl hc hl hre w
        | cons x1 r1 =>
          cases hsc : G.script x1 with
          | false => exact refC_2 s (by omega) hr x0 rest _ rfl hc hl x1 r1 hre hsc w
          | true =>
            cases hr1 : r1 with
            | nil => exact refC_3 s (by omega) hr x0 rest _ rfl hc hl x1 (by rw [hre, hr1]) hsc w
            | cons x2 r2 => exact refC_4 s (by omega) hr x0 rest _ rfl hc hl x1 x2 r2 (by rw [hre, hr1]) hsc w
set_option maxHeartbeats 1000000 in
theorem refIs_any (s : List UInt8) (hs : s.length ≤ 1000) (w : World) : Calls Tryz.prog 36 #[tx s] w fun e W' => e = .returned (.bool (G.isT s)) ∧ Below w.heap.size w W' := by
  have h := refCanon_any s hs w
  unfold tx at *
  have HI : Hid (G.isT s = (G.canon s == some s)) := hide rfl
  generalize G.isT s = b at *
  go_enter Tryz.func36, Tryz.ntmps36
  go_wp2_with fail
  refine h.mono ?_
  rintro e w1 ⟨⟨t, ht, rfl⟩ | ⟨ht, rfl⟩, hb⟩
  · have HB : Hid (b = (t == s)) := hide (by rw [HI.out, ht]; rfl)
    clear h ht HI
    unfold tx
    go_wp2
    go_ret
    exact ⟨by rw [HB.out]; rfl, hb⟩
  · have HB : Hid (b = false) := hide (by rw [HI.out, ht]; rfl)
    clear h ht HI
    unfold tx
    go_wp2
    go_ret
    exact ⟨by rw [HB.out]; rfl, hb⟩
theorem parent_hit {s : List UInt8} (hI : G.isT s = true) (hr : s ≠ G.rootB) {i : Nat} (hi : i < s.length) (h1 : s[i] = 45) (h2 : ∀ j (h : j < s.length), i < j → ¬ s[j] = 45) : G.parent s = s.take i := by
  have : s.reverse.findIdx? (· == 45) = some (s.length - 1 - i) := by
    rw [List.findIdx?_eq_some_iff_getElem]
    refine ⟨by rw [List.length_reverse]; omega, ?_, ?_⟩
    · rw [List.getElem_reverse]
      have : s.length - 1 - (s.length - 1 - i) = i := by omega
      simp only [this, h1]
      rfl
    · intro j hj
      rw [List.getElem_reverse]
      have := h2 (s.length - 1 - j) (by omega) (by omega)
      simpa using this
  unfold G.parent
  rw [if_neg (by rintro (h | h); (rw [hI] at h; cases h); exact hr h), this]
  simp only
  congr 1
  omega
theorem parent_top {s : List UInt8} (hI : G.isT s = true) (hr : s ≠ G.rootB) (h2 : ∀ j (h : j < s.length), 0 < j → ¬ s[j] = 45) : G.parent s = G.rootB := by
  have : s.reverse.findIdx? (· == 45) = none := by
    rw [List.findIdx?_eq_none_iff]
    intro c hc
    obtain ⟨j, hj, rfl⟩ := List.mem_iff_getElem.1 (List.mem_reverse.1 hc)
    by_cases h0 : 0 < j
    · simpa using h2 j hj h0
    · obtain rfl : j = 0 := by omega
      obtain ⟨ps, hp, rfl, _, _⟩ := G.isT_cases hI hr
      obtain ⟨x, xs, rfl, hl, l2, _⟩ := hp.first
      cases x with
      | nil => simp at l2
      | cons c x =>
        have hcl : G.isL c = true := by
          have := (G.lang_len hl).2.2
          rw [List.all_cons, Bool.and_eq_true] at this
          exact this.1
        have he : (G.join ((c :: x) :: xs))[0] = c := by
          cases xs with
          | nil => rfl
          | cons y ys => rfl
        rw [he]
        have := G.all_u8 (fun c => !(G.isL c && c == 45)) (by decide +kernel) c
        rw [hcl] at this
        simpa using this
  unfold G.parent
  rw [if_neg (by rintro (h | h); (rw [hI] at h; cases h); exact hr h), this]
set_option maxRecDepth 100000 in
set_option maxHeartbeats 2000000 in
theorem refParent_any (s : List UInt8) (hs : s.length ≤ 1000) (w : World) : Calls Tryz.prog 56 #[tx s] w fun e W' => e = .returned (tx (G.parent s)) ∧ Below w.heap.size w W' := by
  have h := refIs_any s hs w
  have hz := sz_tx s
  unfold tx at *
  cases hI : G.isT s with
  | false =>
    have HP : Hid (G.parent s = []) := hide (G.parent_none hI)
    rw [hI] at h
    clear hI
    go_enter Tryz.func56, Tryz.ntmps56
    go_wp2_with fail
    refine h.mono ?_
    rintro e w1 ⟨rfl, hb⟩
    go_wp2
    go_ret
    exact ⟨by rw [HP.out]; rfl, hb⟩
  | true =>
    rw [hI] at h
    by_cases hr : s = G.rootB
    · have HP : Hid (G.parent s = []) := hide (by rw [hr]; exact G.parent_root)
      have e1 : (s == [114, 111, 111, 116]) = true := by rw [hr]; rfl
      clear hI hr
      go_enter Tryz.func56, Tryz.ntmps56
      go_wp2_with fail
      refine h.mono ?_
      rintro e w1 ⟨rfl, hb⟩
      go_wp2
      go_ret
      exact ⟨by rw [HP.out]; rfl, hb⟩
    · have e1 : (s == [114, 111, 111, 116]) = false := beq_eq_false_iff_ne.2 hr
      have hl0 : 0 < s.length := by
        cases s with
        | nil => revert hI; decide +kernel
        | cons _ _ => simp
      have HH := hide (fun i hi h1 h2 => parent_hit hI hr (i := i) hi h1 h2)
      have HT := hide (fun h2 => parent_top hI hr h2)
      clear hI hr
      go_enter Tryz.func56, Tryz.ntmps56
      go_wp2_with fail
      refine h.mono ?_
      rintro e w1 ⟨rfl, hb⟩
      go_wp2
      obtain ⟨q, hq⟩ : ∃ q : Nat, (s.length : Int) - 1 = (q : Int) := ⟨s.length - 1, by omega⟩
      rw [hq]
      have hq2 : q + 1 = s.length := by omega
      have HQ := hide hq2
      have hq3 : q < s.length := by omega
      clear hq hq2
      go_loopw [3] (fun u wr => ∃ i : Nat, u = .int .i64 (i : Int) ∧ i < s.length ∧ Hid (∀ j (h : j < s.length), i < j → ¬ s[j] = 45) ∧ wr = w1) (fun u _ => (intOf u).toNat)
      case atStart => exact ⟨q, rfl, hq3, hide (fun j h1 h2 => by have := HQ.out; omega), by first | rfl | trivial⟩
      case round =>
        obtain ⟨i, rfl, hi, HN, rfl⟩ := hrel
        by_cases hi0 : 0 < i
        · have hib : i < (bts ⟨s.toArray⟩).length := hi
          have HX : Hid (s[i]'hi = 45 → G.parent s = s.take i) := hide (fun h => HH.out i hi h HN.out)
          have HN2 : Hid (¬ s[i]'hi = 45 → ∀ j (h : j < s.length), i - 1 < j → ¬ s[j] = 45) := hide (fun h j hj hij => by
            by_cases e : j = i
            · subst e; exact h
            · exact HN.out j hj (by omega))
          have hx := fun j hj h => idx_at (s := ⟨s.toArray⟩) hib j hj h
          have hx3 : (bts ⟨s.toArray⟩)[i]'hib = s[i]'hi := rfl
          rw [hx3] at hx
          clear hx3
          generalize s[i]'hi = c at *
          have hx2 : ∀ h, (⟨s.toArray⟩ : ByteArray)[i]'h = c := fun h => hx (i : Int) rfl h
          clear hx hib HN
          have e45 : ((c.toNat : Int) == 45) = decide (c = 45) := u8_eq c 45
          by_cases hc : c = 45
          · rw [decide_eq_true hc] at e45
            have HP := hide (HX.out hc)
            have ex := ext_tx s 0 i
            rw [List.drop_zero, Nat.sub_zero] at ex
            clear HX HN2 hc
            go_wp2
            go_ret
            exact ⟨by rw [HP.out]; rfl, hb⟩
          · rw [decide_eq_false hc] at e45
            have HP := hide (HN2.out hc)
            clear HX HN2 hc
            obtain ⟨i2, hi2⟩ : ∃ i2 : Nat, (i : Int) - 1 = (i2 : Int) := ⟨i - 1, by omega⟩
            have HI2 : Hid (i2 = i - 1) := hide (by omega)
            go_wp2
            go_roundw
            case rel => exact ⟨i2, rfl, by have := HI2.out; omega, hide (by rw [HI2.out]; exact HP.out), by first | rfl | trivial⟩
            case measure => simp [intOf]; have := HI2.out; omega
        · obtain rfl : i = 0 := by omega
          have HP := hide (HT.out (fun j h1 h2 => HN.out j h1 h2))
          clear HN
          simp only [show ((0 : Nat) : Int) = 0 from rfl]
          go_wp2
          go_ret
          exact ⟨by rw [HP.out]; rfl, hb⟩
end Go.Proofs.YtbeihgjonhgfmaaGreatDoor
