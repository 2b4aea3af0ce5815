/- ChainTags. -/
import Derived.Test.YtbeihgjonhgfmaaGreatDoorChl
import Derived.Test.YtbeihgjonhgfmaaGreatDoorChn
namespace Go.Proofs.YtbeihgjonhgfmaaGreatDoor
open Go.RowKit Go.Shelf Go.Maps
attribute [local go_sem] Oper.semAt_some
namespace C
theorem isT_ne {t : Tx} (h : G.isT t = true) : t ≠ [] := fun e => by rw [e] at h; revert h; decide
theorem isT_parent {t : Tx} (h : G.isT t = true) (hp : G.parent t ≠ []) : G.isT (G.parent t) = true := by
  have hr : t ≠ G.rootB := fun e => hp (by rw [e]; exact G.parent_root)
  obtain ⟨ps, hc, rfl, hl, _⟩ := G.isT_cases h hr
  obtain ⟨x, xs, rfl, _⟩ := hc.first
  cases hxs : (x :: xs).reverse with
  | nil => simp at hxs
  | cons p qs =>
    have e : x :: xs = qs.reverse ++ [p] := by
      have := congrArg List.reverse hxs
      rw [List.reverse_reverse] at this
      rw [this]; simp
    rw [e] at hc hl ⊢
    by_cases hq : qs.reverse = []
    · rw [hq, List.nil_append] at hc hl ⊢
      rw [G.parent_one hc hl]
      exact G.root_isT
    · obtain ⟨h1, h2, h3⟩ := G.parent_more hq hc hl
      rw [h1]
      exact G.isT_iff.2 (h2.canon h3)
/-- The loop's state. -/
structure TI (t0 : Tx) (i : Nat) (cur : Tx) (want : List Tx) (L : Row) : Prop where
  don : ∃ done : List Tx, done.length = i ∧ want.Sublist done ∧ t0 :: ups t0 = done ++ (if cur = [] then [] else cur :: ups cur)
  tag : cur = [] ∨ G.isT cur = true
  zero : i = 0 → cur = t0 ∧ want = []
  pos : 0 < i → ∃ w, want = t0 :: w
  get : ∀ x, get L x = if x ∈ want then some [] else none
  srt : Srt L
  len : L.length ≤ i
  few : want.length ≤ i
  t0T : G.isT t0 = true
section
variable {t0 : Tx} {i : Nat} {cur : Tx} {want : List Tx} {L : Row}
theorem TI.start (h : G.isT t0 = true) : TI t0 0 t0 [] [] := {
  don := ⟨[], rfl, List.Sublist.refl _, by rw [if_neg (isT_ne h)]; rfl⟩
  tag := .inr h
  zero := fun _ => ⟨rfl, rfl⟩
  pos := fun h => absurd h (Nat.lt_irrefl 0)
  get := fun x => by simp [C.get]
  srt := List.Pairwise.nil
  len := Nat.le_refl 0
  few := Nat.le_refl 0
  t0T := h }
theorem TI.tail (h : TI t0 i cur want L) (hc : cur ≠ []) : ∃ done : List Tx, done.length = i ∧ want.Sublist done ∧ t0 :: ups t0 = (done ++ [cur]) ++ (if G.parent cur = [] then [] else G.parent cur :: ups (G.parent cur)) := by
  obtain ⟨done, h1, h2, h3⟩ := h.don
  refine ⟨done, h1, h2, ?_⟩
  have e : [cur] ++ (if G.parent cur = [] then [] else G.parent cur :: ups (G.parent cur)) = cur :: ups cur := by
    by_cases hp : G.parent cur = []
    · rw [if_pos hp, ups_nil hp]; rfl
    · rw [if_neg hp, ups_cons hp]; rfl
  rw [h3, if_neg hc, List.append_assoc, e]
theorem TI.ptag (h : TI t0 i cur want L) (hc : cur ≠ []) : G.parent cur = [] ∨ G.isT (G.parent cur) = true := by
  by_cases hp : G.parent cur = []
  · exact .inl hp
  · exact .inr (isT_parent (h.tag.resolve_left hc) hp)
theorem TI.skip (h : TI t0 i cur want L) (hc : cur ≠ []) (hi : 0 < i) : TI t0 (i + 1) (G.parent cur) want L := by
  obtain ⟨done, h1, h2, h3⟩ := h.tail hc
  exact ⟨⟨done ++ [cur], by simp [h1], h2.trans (List.sublist_append_left _ _), h3⟩, h.ptag hc, fun h => by omega, fun _ => h.pos hi, h.get, h.srt, by have := h.len; omega, by have := h.few; omega, h.t0T⟩
theorem TI.take (h : TI t0 i cur want L) (hc : cur ≠ []) : TI t0 (i + 1) (G.parent cur) (want ++ [cur]) (put L cur []) := by
  obtain ⟨done, h1, h2, h3⟩ := h.tail hc
  refine ⟨⟨done ++ [cur], by simp [h1], h2.append (List.Sublist.refl _), h3⟩, h.ptag hc, fun h => by omega, fun _ => ?_, fun x => ?_, srt_put h.srt _ _, by have := h.len; have := len_put L cur []; omega, by have := h.few; simp; omega, h.t0T⟩
  · rcases Nat.eq_zero_or_pos i with h0 | h0
    · obtain ⟨e1, e2⟩ := h.zero h0
      exact ⟨[], by rw [e1, e2]; rfl⟩
    · obtain ⟨w, e⟩ := h.pos h0
      exact ⟨w ++ [cur], by rw [e]; rfl⟩
  · rw [get_put h.srt, h.get]
    by_cases hx : x = cur
    · simp [hx]
    · simp [hx]
theorem TI.done (h : TI t0 i cur want L) : TgR t0 want L := by
  obtain ⟨done, _, h2, h3⟩ := h.don
  exact ⟨isT_len h.t0T, by rw [h3]; exact h2.trans (List.sublist_append_left _ _), h.get, h.srt⟩
end
set_option maxRecDepth 100000 in
set_option maxHeartbeats 2000000 in
theorem tags_any (s : Tx) (hs : s.length ≤ 9223372036854775807) (mask : UInt8) (w : World) (hA : AF w) : Calls Tryz.prog 6 #[tx s, U8 mask] w fun e W' => e = .returned (.bool true) ∧ Below w.heap.size w W' := by
  have hz := AF.pos hA
  have hes := elemSize30
  obtain ⟨i0, hi0, hz0, hz1, hz2⟩ := info_parts9 info9N
  have hkn := known_any w hA
  have hm := mask.toNat_lt
  have hcn := fun W (hW : Below w.heap.size w W) => canon_any s hs W (hA.later hW)
  have HA := hide hA
  clear hA
  unfold U8 tx at *
  go_enter Tryz.func6, Tryz.ntmps6
  go_wp2_with fail
  refine hkn.mono ?_
  rintro e w1 ⟨rfl, b1⟩
  clear hkn
  go_wp2_with fail
  refine (hcn w1 b1).mono ?_
  rintro e w2 ⟨hans, b2⟩
  have b2' := nx b1 b2
  clear hcn b1 b2
  rcases hans with ⟨t0, ht, rfl⟩ | ⟨ht, rfl⟩
  · have hT := G.isT_canon ht
    have hnew := new_any w2
    clear ht
    unfold tx
    go_wp2_with fail
    refine hnew.mono ?_
    rintro e w3 hn3
    have f3 := FB.new hn3
    obtain ⟨rfl, _, b3⟩ := hn3
    have hs2 := b2'.size
    have hs3 := b3.size
    have HT := hide hT
    clear hnew hT
    go_wp2
    go_loopw [5, 8, 9] (fun u5 u8 u9 wr => ∃ (i : Nat) (cur : Tx) (want : List Tx) (L : Row), u5 = tx cur ∧ OwnN wr w3.heap.size u8 want ∧ u9 = .int .i64 (i : Int) ∧ i ≤ 8 ∧ FB w2.heap.size wr w2.heap.size L ∧ Hid (TI t0 i cur want L) ∧ Below w2.heap.size w2 wr ∧ w3.heap.size ≤ wr.heap.size ∧ want.length ≤ 6) (fun _ _ u _ => 8 - (intOf u).toNat)
    case atStart => exact ⟨0, t0, [], [], rfl, ownN_nil _ _, rfl, by omega, f3, hide (TI.start HT.out), b3, Nat.le_refl _, by simp⟩
    case round =>
      obtain ⟨i, cur, want, L, rfl, hO, rfl, hi, hF, HI, hb, hsz, hw6⟩ := hrel
      by_cases hc : cur = []
      · have hip : 0 < i := by
          rcases Nat.eq_zero_or_pos i with h0 | h0
          · exact absurd ((HI.out.zero h0).1.symm.trans hc) (isT_ne HT.out)
          · exact h0
        subst hc
        have hR := HI.out.done
        obtain ⟨wt, hwt⟩ := HI.out.pos hip
        have hwl : 0 < want.length := by rw [hwt]; simp
        have hch := hR.chain hw6 (w1 := []) (t := t0) (w2 := wt) (by rw [hwt]; rfl)
        have hck := hR.check hw6
        obtain ⟨w1', z, hwz⟩ : ∃ w1' z, want = w1' ++ [z] := ⟨want.dropLast, want.getLast (fun e => by rw [e] at hwl; simp at hwl), (List.dropLast_concat_getLast _).symm⟩
        have hun := hR.under hw6 hwz
        have hzl : want.length = w1'.length + 1 := by rw [hwz]; simp
        rw [← hwt] at hch
        have hAr := fun W (hW : Below w2.heap.size w2 W) => HA.out.later (b2'.trans (hW.mono hs2))
        have hc1 := chainB hF t0 (by have := isT_len HT.out; omega) (hAr wr hb)
        have hc2 := fun W (f : FB w2.heap.size W w2.heap.size L) (hW : Below w2.heap.size w2 W) => checkB f (by have := HI.out.len; omega) (hAr W hW)
        have hc3 := fun W (f : FB w2.heap.size W w2.heap.size L) (hW : Below w2.heap.size w2 W) => underB f (by have := HI.out.len; omega) (hAr W hW) z
        unfold AnsH at hc1
        rw [hch] at hc1
        rw [hck] at hc2
        obtain ⟨ao, cap, rfl, _, hrd⟩ := hO.rd
        obtain ⟨lb, lof, rfl, hrb⟩ := RdT.at hrd hwl
        have c0 := hrb.2 0 hwl
        have cz := hrb.2 (want.length - 1) (by omega)
        have e0 : want[0] = t0 := by simp only [hwt]; rfl
        have ez : want[want.length - 1] = z := by
          have : want.length - 1 = w1'.length := by omega
          simp only [this]
          simp [hwz]
        rw [e0] at c0
        rw [ez] at cz
        have HRT := hide hrb.rdt
        have HF := hide hF
        have HB := hide hb
        have htx := fun W (ao1 : Option Addr) (k1 : Nat) (hr : RdT W ao1 want) (hq : RdT W (some ⟨lb, lof, none⟩) want) => texts_any W ao1 (some ⟨lb, lof, none⟩) k1 cap want want hr hq (by omega)
        simp only [beq_self_eq_true] at htx
        have HUN := hide hun
        have HZL := hide hzl
        clear hO hF hb hrd hrb hch hck hwt hwz hR HI hAr e0 ez hun hzl
        simp only [Nat.add_zero] at c0
        unfold tx at *
        go_wp2_with fail
        refine hc1.mono ?_
        rintro e w5 ⟨⟨v5, rfl, o5⟩, b5⟩
        have HF5 := hide (HF.out.later b5)
        have HB5 : Hid (Below w2.heap.size w2 w5) := hide (HB.out.trans (b5.mono HB.out.size))
        have cz5 := cell_later b5 cz
        have HRT5 := hide (HRT.out.later b5)
        have HO5 := hide o5
        clear hc1 b5 cz c0 o5 HF HB HRT
        go_wp2_with fail
        refine (hc2 w5 HF5.out HB5.out).mono ?_
        rintro e w6 ⟨rfl, b6⟩
        have HF6 := hide (HF5.out.later b6)
        have HB6 : Hid (Below w2.heap.size w2 w6) := hide (HB5.out.trans (b6.mono HB5.out.size))
        have cz6 := cell_later b6 cz5
        have HRT6 := hide (HRT5.out.later b6)
        obtain ⟨ao6, cap6, hv5, _, hrd6⟩ := (HO5.out.later b6).rd
        have ht6 := htx w6 ao6 cap6 hrd6 HRT6.out
        subst hv5
        clear hc2 b6 cz5 HF5 HB5 HRT5 HO5 hrd6 htx
        unfold tx at *
        simp only [show ((0 : Nat) : Int) = 0 from rfl]
        go_wp2_with fail
        refine ht6.mono ?_
        rintro e w7 ⟨rfl, b7⟩
        have HF7 := hide (HF6.out.later b7)
        have HB7 : Hid (Below w2.heap.size w2 w7) := hide (HB6.out.trans (b7.mono HB6.out.size))
        have cz7 := cell_later b7 cz6
        clear ht6 b7 cz6 HF6 HB6 HRT6
        go_wp2_with fail
        refine (hc3 w7 HF7.out HB7.out).mono ?_
        rintro e w8 ⟨v8, rfl, o8, b8⟩
        obtain ⟨ao8, cap8, rfl, _, _⟩ := o8.rd
        rw [HUN.out]
        have hq8 : (w1'.length : Int) = (want.length : Int) - 1 := by have := HZL.out; omega
        have g8 : ((w1'.length : Int) == (want.length : Int) - 1) = true := by rw [hq8]; simp
        clear hc3 o8 cz7 hq8
        go_wp2
        go_ret
        exact ⟨rfl, b2'.trans ((HB7.out.trans (b8.mono HB7.out.size)).mono hs2)⟩
      · by_cases h8 : i < 8
        · have hcb : (cur == []) = false := by simpa using hc
          by_cases hi0' : i = 0
          · have g1 : ((i : Int) == 0) = true := by rw [hi0']; rfl
            have hile : i ≤ 0 := by omega
            clear hi0'
            have hT := HI.out.tag.resolve_left hc
            have hcl := isT_len hT
            have HN := hide (HI.out.take hc)
            have hfw := HI.out.few
            have hAr := HA.out.later (b2'.trans (hb.mono hs2))
            by_cases h6 : want.length = 6
            · have g6 : ((want.length : Int) == 6) = true := by rw [h6]; rfl
              have HB := hide hb
              obtain ⟨ao, cap, rfl, _, _⟩ := hO.rd
              clear hO hF hb h6 hc hT HI HN
              unfold tx at *
              go_wp2
              go_ret
              exact ⟨rfl, b2'.trans (HB.out.mono hs2)⟩
            · have g6 : ((want.length : Int) == 6) = false := by simp; omega
              have hw5 : want.length ≤ 5 := by omega
              have hset := setB_ok hF hb.size cur [] hT (.inl rfl) (by have := HI.out.len; omega) hAr
              have hpar := fun W (hW : Below w2.heap.size w2 W) => parent_any cur (by omega) W (HA.out.later (b2'.trans (hW.mono hs2)))
              have HB := hide hb
              obtain ⟨ao, cap, hu, _, _⟩ := hO.rd
              have HO := hide hO
              subst hu
              clear hO hF hb h6 hc hT HI hAr
              generalize G.parent cur = nx at *
              unfold tx at *
              go_wp2_with fail
              refine hset.mono ?_
              rintro e w5 ⟨rfl, f5, b5, k5⟩
              have HO5 := hide (k5.1 _ _ _ HO.out)
              have hz5 := b5.size
              have rO : w5.ownsRow w3.heap.size 9 1 (.slice ao want.length cap) want.length (want.map tx) := HO5.out
              have HF5 := hide f5
              have HB5 : Hid (Below w2.heap.size w2 w5) := hide (HB.out.trans b5)
              clear hset f5 b5 k5
              go_wp2_with (at_builtin; refine wpList_append_own_at _ rfl _ _ 30 rfl w3.heap.size 9 i0 (.string ByteArray.empty) 1 16 Tryz.underlying30 hi0 hz0 hz1 hz2 rfl (by decide) _ _ _ rfl (rO.alloc _) ⟨w5.heap.size, 0, none⟩ 1 1 [.string ⟨cur.toArray⟩] rfl rfl (one_new _ _ _) (by simp [Value.oneCell']) (by unfold maxLen; omega) (by omega) (by simp; omega) ?_; intro v9 w9 hown9 hgrow9 _ hat9; obtain ⟨g9, cap9, rfl⟩ := ownsRow_succ hown9)
              have fin := own_app HO5.out (by omega) hown9 hgrow9
              have finF := HF5.out.app HO5.out hgrow9
              have HB9 : Hid (Below w2.heap.size w2 w9) := hide (HB5.out.trans (fin.2.mono hs3))
              have hz9 := fin.2.size
              refine (hpar w9 HB9.out).mono ?_
              rintro e w10 ⟨rfl, b10⟩
              have hz10 := b10.size
              have HO10 := hide (fin.1.later b10)
              have HF10 := hide (finF.later b10)
              clear hpar fin finF hown9 hgrow9 rO
              go_wp2
              go_roundw
              case rel => exact ⟨i + 1, nx, want ++ [cur], put L cur [], rfl, HO10.out, by go_num, by omega, HF10.out, HN, HB9.out.trans (b10.mono HB9.out.size), by omega, by simp; omega⟩
              case measure => simp [intOf]; omega
          · have g1 : ((i : Int) == 0) = false := by simp; omega
            have hip : 0 < i := by omega
            clear hi0'
            cases hbit : (bits BinOp.and IntKind.u8 ((mask.toNat : Int) / 2 ^ i) 1 == 1) with
            | false =>
              have HN := hide (HI.out.skip hc hip)
              have hpa := parent_any cur (by have := isT_len (HI.out.tag.resolve_left hc); omega) wr (HA.out.later (b2'.trans (hb.mono hs2)))
              have HF := hide hF
              have HB := hide hb
              have HO := hide hO
              clear hO hF hb hc
              generalize G.parent cur = nx at *
              unfold tx at *
              go_wp2_with fail
              refine hpa.mono ?_
              rintro e w5 ⟨rfl, b5⟩
              have hz5 := b5.size
              clear hpa
              go_wp2
              go_roundw
              case rel => exact ⟨i + 1, nx, want, L, rfl, HO.out.later b5, by go_num, by omega, HF.out.later b5, HN, HB.out.trans (b5.mono HB.out.size), by omega, hw6⟩
              case measure => simp [intOf]; omega
            | true =>
              have hT := HI.out.tag.resolve_left hc
              have hcl := isT_len hT
              have HN := hide (HI.out.take hc)
              have hfw := HI.out.few
              have hAr := HA.out.later (b2'.trans (hb.mono hs2))
              by_cases h6 : want.length = 6
              · have g6 : ((want.length : Int) == 6) = true := by rw [h6]; rfl
                have HB := hide hb
                obtain ⟨ao, cap, rfl, _, _⟩ := hO.rd
                clear hO hF hb h6 hc hT HI HN
                unfold tx at *
                go_wp2
                go_ret
                exact ⟨rfl, b2'.trans (HB.out.mono hs2)⟩
              · have g6 : ((want.length : Int) == 6) = false := by simp; omega
                have hw5 : want.length ≤ 5 := by omega
                have hset := setB_ok hF hb.size cur [] hT (.inl rfl) (by have := HI.out.len; omega) hAr
                have hpar := fun W (hW : Below w2.heap.size w2 W) => parent_any cur (by omega) W (HA.out.later (b2'.trans (hW.mono hs2)))
                have HB := hide hb
                obtain ⟨ao, cap, hu, _, _⟩ := hO.rd
                have HO := hide hO
                subst hu
                clear hO hF hb h6 hc hT HI hAr
                generalize G.parent cur = nx at *
                unfold tx at *
                go_wp2_with fail
                refine hset.mono ?_
                rintro e w5 ⟨rfl, f5, b5, k5⟩
                have HO5 := hide (k5.1 _ _ _ HO.out)
                have hz5 := b5.size
                have rO : w5.ownsRow w3.heap.size 9 1 (.slice ao want.length cap) want.length (want.map tx) := HO5.out
                have HF5 := hide f5
                have HB5 : Hid (Below w2.heap.size w2 w5) := hide (HB.out.trans b5)
                clear hset f5 b5 k5
                go_wp2_with (at_builtin; refine wpList_append_own_at _ rfl _ _ 30 rfl w3.heap.size 9 i0 (.string ByteArray.empty) 1 16 Tryz.underlying30 hi0 hz0 hz1 hz2 rfl (by decide) _ _ _ rfl (rO.alloc _) ⟨w5.heap.size, 0, none⟩ 1 1 [.string ⟨cur.toArray⟩] rfl rfl (one_new _ _ _) (by simp [Value.oneCell']) (by unfold maxLen; omega) (by omega) (by simp; omega) ?_; intro v9 w9 hown9 hgrow9 _ hat9; obtain ⟨g9, cap9, rfl⟩ := ownsRow_succ hown9)
                have fin := own_app HO5.out (by omega) hown9 hgrow9
                have finF := HF5.out.app HO5.out hgrow9
                have HB9 : Hid (Below w2.heap.size w2 w9) := hide (HB5.out.trans (fin.2.mono hs3))
                have hz9 := fin.2.size
                refine (hpar w9 HB9.out).mono ?_
                rintro e w10 ⟨rfl, b10⟩
                have hz10 := b10.size
                have HO10 := hide (fin.1.later b10)
                have HF10 := hide (finF.later b10)
                clear hpar fin finF hown9 hgrow9 rO
                go_wp2
                go_roundw
                case rel => exact ⟨i + 1, nx, want ++ [cur], put L cur [], rfl, HO10.out, by go_num, by omega, HF10.out, HN, HB9.out.trans (b10.mono HB9.out.size), by omega, by simp; omega⟩
                case measure => simp [intOf]; omega
        · have hcb : (cur == []) = false := by simpa using hc
          have hip : 0 < i := by omega
          clear hc
          have hR := HI.out.done
          obtain ⟨wt, hwt⟩ := HI.out.pos hip
          have hwl : 0 < want.length := by rw [hwt]; simp
          have hch := hR.chain hw6 (w1 := []) (t := t0) (w2 := wt) (by rw [hwt]; rfl)
          have hck := hR.check hw6
          obtain ⟨w1', z, hwz⟩ : ∃ w1' z, want = w1' ++ [z] := ⟨want.dropLast, want.getLast (fun e => by rw [e] at hwl; simp at hwl), (List.dropLast_concat_getLast _).symm⟩
          have hun := hR.under hw6 hwz
          have hzl : want.length = w1'.length + 1 := by rw [hwz]; simp
          rw [← hwt] at hch
          have hAr := fun W (hW : Below w2.heap.size w2 W) => HA.out.later (b2'.trans (hW.mono hs2))
          have hc1 := chainB hF t0 (by have := isT_len HT.out; omega) (hAr wr hb)
          have hc2 := fun W (f : FB w2.heap.size W w2.heap.size L) (hW : Below w2.heap.size w2 W) => checkB f (by have := HI.out.len; omega) (hAr W hW)
          have hc3 := fun W (f : FB w2.heap.size W w2.heap.size L) (hW : Below w2.heap.size w2 W) => underB f (by have := HI.out.len; omega) (hAr W hW) z
          unfold AnsH at hc1
          rw [hch] at hc1
          rw [hck] at hc2
          obtain ⟨ao, cap, rfl, _, hrd⟩ := hO.rd
          obtain ⟨lb, lof, rfl, hrb⟩ := RdT.at hrd hwl
          have c0 := hrb.2 0 hwl
          have cz := hrb.2 (want.length - 1) (by omega)
          have e0 : want[0] = t0 := by simp only [hwt]; rfl
          have ez : want[want.length - 1] = z := by
            have : want.length - 1 = w1'.length := by omega
            simp only [this]
            simp [hwz]
          rw [e0] at c0
          rw [ez] at cz
          have HRT := hide hrb.rdt
          have HF := hide hF
          have HB := hide hb
          have htx := fun W (ao1 : Option Addr) (k1 : Nat) (hr : RdT W ao1 want) (hq : RdT W (some ⟨lb, lof, none⟩) want) => texts_any W ao1 (some ⟨lb, lof, none⟩) k1 cap want want hr hq (by omega)
          simp only [beq_self_eq_true] at htx
          have HUN := hide hun
          have HZL := hide hzl
          clear hO hF hb hrd hrb hch hck hwt hwz hR HI hAr e0 ez hun hzl
          simp only [Nat.add_zero] at c0
          unfold tx at *
          go_wp2_with fail
          refine hc1.mono ?_
          rintro e w5 ⟨⟨v5, rfl, o5⟩, b5⟩
          have HF5 := hide (HF.out.later b5)
          have HB5 : Hid (Below w2.heap.size w2 w5) := hide (HB.out.trans (b5.mono HB.out.size))
          have cz5 := cell_later b5 cz
          have HRT5 := hide (HRT.out.later b5)
          have HO5 := hide o5
          clear hc1 b5 cz c0 o5 HF HB HRT
          go_wp2_with fail
          refine (hc2 w5 HF5.out HB5.out).mono ?_
          rintro e w6 ⟨rfl, b6⟩
          have HF6 := hide (HF5.out.later b6)
          have HB6 : Hid (Below w2.heap.size w2 w6) := hide (HB5.out.trans (b6.mono HB5.out.size))
          have cz6 := cell_later b6 cz5
          have HRT6 := hide (HRT5.out.later b6)
          obtain ⟨ao6, cap6, hv5, _, hrd6⟩ := (HO5.out.later b6).rd
          have ht6 := htx w6 ao6 cap6 hrd6 HRT6.out
          subst hv5
          clear hc2 b6 cz5 HF5 HB5 HRT5 HO5 hrd6 htx
          unfold tx at *
          simp only [show ((0 : Nat) : Int) = 0 from rfl]
          go_wp2_with fail
          refine ht6.mono ?_
          rintro e w7 ⟨rfl, b7⟩
          have HF7 := hide (HF6.out.later b7)
          have HB7 : Hid (Below w2.heap.size w2 w7) := hide (HB6.out.trans (b7.mono HB6.out.size))
          have cz7 := cell_later b7 cz6
          clear ht6 b7 cz6 HF6 HB6 HRT6
          go_wp2_with fail
          refine (hc3 w7 HF7.out HB7.out).mono ?_
          rintro e w8 ⟨v8, rfl, o8, b8⟩
          obtain ⟨ao8, cap8, rfl, _, _⟩ := o8.rd
          rw [HUN.out]
          have hq8 : (w1'.length : Int) = (want.length : Int) - 1 := by have := HZL.out; omega
          have g8 : ((w1'.length : Int) == (want.length : Int) - 1) = true := by rw [hq8]; simp
          clear hc3 o8 cz7 hq8
          go_wp2
          go_ret
          exact ⟨rfl, b2'.trans ((HB7.out.trans (b8.mono HB7.out.size)).mono hs2)⟩
  · clear ht
    unfold tx
    go_wp2
    go_ret
    exact ⟨rfl, b2'⟩
end C
end Go.Proofs.YtbeihgjonhgfmaaGreatDoor
