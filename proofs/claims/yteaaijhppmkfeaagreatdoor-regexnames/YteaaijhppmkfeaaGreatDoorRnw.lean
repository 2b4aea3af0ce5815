/- RegexNames: its walk. -/
import Derived.Test.YteaaijhppmkfeaaGreatDoorRnp
namespace Go.Proofs.YteaaijhppmkfeaaGreatDoor
open Go.RowKit Go.Shelf
open E (T)
attribute [local go_sem] Oper.semAt_some
set_option maxRecDepth 100000 in
set_option maxHeartbeats 1000000 in
theorem rnames_any (ao : Option Addr) (bs : List UInt8) (cap : Nat) (w : World) (hR : Rd w ao (cB bs)) (hlen : bs.length ≤ 9223372036854775807) (ht : Tabs w) (hd : Deb w) : Calls Tryz.prog 5 #[.slice ao bs.length cap] w fun e w' => e = .returned (.bool true) ∧ Below w.heap.size w w' := by
  have hk := known_any w ht hd
  go_enter Tryz.func5, Tryz.ntmps5
  go_wp2_with fail
  refine hk.mono ?_
  rintro e w1 ⟨rfl, hb1⟩
  clear hk
  by_cases h30 : 30 < bs.length
  · have g : decide (30 < (bs.length : Int)) = true := decide_eq_true (by omega)
    go_wp2
    go_ret
    exact ⟨rfl, hb1⟩
  · have g : decide (30 < (bs.length : Int)) = false := decide_eq_false (by omega)
    by_cases h0 : bs.length = 0
    · have g0 : decide ((bs.length : Int) = 0) = true := decide_eq_true (by omega)
      go_wp2
      go_ret
      exact ⟨rfl, hb1⟩
    · have g0 : decide ((bs.length : Int) = 0) = false := decide_eq_false (by omega)
      go_wp2
      have HM := hide (mks_new w1)
      have hbA := nx hb1 (al1 w1 (.cells fl26 42))
      have hBs : w.heap.size ≤ w1.heap.size := hb1.size
      have hBn : w1.heap.size < (w1.alloc (.cells fl26 42)).heap.size := (Array.getElem?_eq_some_iff.1 (heap_alloc_new w1 (.cells fl26 42))).1
      unfold fl26 at HM hbA hBn
      generalize hB : w1.heap.size = B at *
      go_loopw [3, 5, 6] (fun p u _ wr => ∃ (i : Nat) (A : ByteArray), p = .string A ∧ u = .int .i64 (i : Int) ∧ i ≤ bs.length ∧ Hid (bts A = E.nmT (lcs (bs.take i))) ∧ Hid (Mks wr B fun c => (les (bs.take i)).contains c) ∧ B < wr.heap.size ∧ Below w.heap.size w wr) (fun _ u _ _ => bs.length - (intOf u).toNat)
      case atStart => exact ⟨0, _, rfl, rfl, Nat.zero_le _, hide rfl, HM, hBn, hbA⟩
      case round =>
        obtain ⟨i, A, rfl, rfl, hi, HA, HK, hBr, hbr⟩ := hrel
        by_cases hlt : i < bs.length
        · have hRi := hR.later hbr
          obtain ⟨b, off, rfl, hc⟩ := hRi.byte i hlt
          have hx := bs[i].toNat_lt
          have HT : Hid (bs.take (i + 1) = bs.take i ++ [bs[i]]) := hide (List.take_succ_eq_append_getElem hlt)
          generalize hxe : bs[i] = x at *
          obtain ⟨e, hee⟩ : ∃ e : Nat, x.toNat % 26 = e := ⟨_, rfl⟩
          have hm : (x.toNat : Int) % 26 = (e : Int) := by omega
          have he26 : e < 26 := by omega
          have HLE := hide hee
          obtain ⟨y, hy⟩ : ∃ y : Nat, 97 + e = y := ⟨_, rfl⟩
          have ha : 97 + (e : Int) = (y : Int) := by omega
          have hyb : y < 256 := by omega
          have HY := hide hy
          clear hy
          have hfz := HK.out.free e
          have hcl := HK.out.cell e he26
          clear hee
          have hAs : A.size ≤ 90 := by
            rw [← bts_len, HA.out, nmT_len, lcs_len, List.length_take]; omega
          have hA2 : ∀ c : ByteArray, (A ++ c).size = A.size + c.size := fun c => ByteArray.size_append
          have hsz : (wr.setCell ⟨B, e, none⟩ (.bool true)).heap.size = wr.heap.size := by simp [World.setCell]
          have hcv := cv1 (wr.setCell ⟨B, e, none⟩ (.bool true)) wr.heap.size y hyb hsz
          have hbs := hbr.setCell (p := ⟨B, e, none⟩) hBs (.bool true)
          have hba := nx hbs (al1 (wr.setCell ⟨B, e, none⟩ (.bool true)) (.cells #[.int .u8 (y : Int)] 5))
          clear hRi
          have HK2 : Hid (Mks ((wr.setCell ⟨B, e, none⟩ (.bool true)).alloc (.cells #[.int .u8 (y : Int)] 5)) B fun c => (les (bs.take (i + 1))).contains c) := by
            refine hide ?_
            have h1 := (HK.out.set he26).later (W' := (wr.setCell ⟨B, e, none⟩ (.bool true)).alloc (.cells #[.int .u8 (y : Int)] 5)) ((al1 _ _).block B (by rw [hsz]; exact hBr))
            rw [HT.out, les_snoc, HLE.out]
            have : (fun c => (les (bs.take i) ++ [e]).contains c) = fun c => ((les (bs.take i)).contains c || c == e) := by
              funext c
              rw [Bool.eq_iff_iff]
              simp
            rw [this]
            exact h1
          have HA2 : Hid (bts (A ++ ⟨#[32, 36]⟩ ++ ⟨#[UInt8.ofNat y]⟩) = E.nmT (lcs (bs.take (i + 1)))) := by
            refine hide ?_
            rw [bts_app', bts_app', HA.out, HT.out, lcs_snoc, nmT_snoc, HLE.out, HY.out, List.append_assoc]
            rfl
          have hsz2 : B < ((wr.setCell ⟨B, e, none⟩ (.bool true)).alloc (.cells #[.int .u8 (y : Int)] 5)).heap.size := by
            have := (Array.getElem?_eq_some_iff.1 (heap_alloc_new (wr.setCell ⟨B, e, none⟩ (.bool true)) (.cells #[.int .u8 (y : Int)] 5))).1
            omega
          go_wp2
          exact ⟨⟨i + 1, _, rfl, by go_num, by omega, HA2, HK2, hsz2, hba⟩, by simp [intOf]; omega⟩
        · obtain rfl : i = bs.length := by omega
          rw [List.take_length] at HA HK
          obtain ⟨t, p1, p2, p3, p4, p5⟩ := parse_lcs bs h0 h30
          have hAs : A.size ≤ 90 := by
            rw [← bts_len, HA.out, nmT_len, lcs_len]; omega
          have hpa := parse_any A (by omega) wr (ht.later hbr)
          rw [HA.out, p1] at hpa
          clear HM hbA hBn
          go_wp2_with fail
          refine hpa.mono ?_
          intro e w2 ha
          obtain ⟨hb2, d, rfl, htr⟩ := ha.ok
          clear hpa ha
          have a1 := al1 w2 (.cells #[.int .i64 d.k, .int .i64 d.a, .slice d.sp d.sl d.sc, .string d.n, .slice d.kp d.kl d.kc] 26)
          have n1 := heap_alloc_new w2 (.cells #[.int .i64 d.k, .int .i64 d.a, .slice d.sp d.sl d.sc, .string d.n, .slice d.kp d.kl d.kc] 26)
          obtain ⟨X1, hX1⟩ : ∃ X1, w2.alloc (.cells #[.int .i64 d.k, .int .i64 d.a, .slice d.sp d.sl d.sc, .string d.n, .slice d.kp d.kl d.kc] 26) = X1 := ⟨_, rfl⟩
          rw [hX1] at a1 n1
          obtain ⟨r0, r1, r2, r3, r4⟩ := cells_five n1
          have HN := hide n1
          have htr1 := TR.later (fun k hk => a1.block k hk) _ htr
          have hnm := names_any t d X1 htr1 p3 p4
          rw [p2] at hnm
          have HTR := hide htr1
          have hE : w2.heap.size < X1.heap.size := (Array.getElem?_eq_some_iff.1 n1).1
          have hB2 : B < w2.heap.size := Nat.lt_of_lt_of_le hBr hb2.size
          unfold ND.v at hnm ⊢
          clear htr htr1 n1
          go_wp2_with fail
          refine hnm.mono ?_
          rintro e X ⟨u, rfl, hown, hb3⟩
          have HK3 : Hid (Mks X B fun c => (les bs).contains c) := hide (((HK.out.later (hb2.block B hBr)).later (a1.block B hB2)).later (hb3.block B (by omega)))
          have HTX : Hid (TR X (fun _ => True) t d.v) := hide (TR.later (fun k hk => hb3.block k hk) _ HTR.out)
          have HNX : Hid (X.heap[w2.heap.size]? = some (.cells #[.int .i64 d.k, .int .i64 d.a, .slice d.sp d.sl d.sc, .string d.n, .slice d.kp d.kl d.kc] 26)) := hide ((hb3.block _ hE).trans HN.out)
          have hEX : w2.heap.size < X.heap.size := Nat.lt_of_lt_of_le hE hb3.size
          have hbX := nx hbr (nx hb2 (nx a1 hb3))
          have hsX : w.heap.size ≤ X.heap.size := by omega
          have hX1s : B < X1.heap.size := by omega
          clear hnm HTR HK r0 r1 r2 r3 r4 HN hX1
          obtain ⟨q, hq⟩ : ∃ q : Nat → Bool, (fun c => (les bs).contains c) = q := ⟨_, rfl⟩
          rw [hq] at HK3 hown
          have hpos : 0 < (E.lts q).length := by
            obtain ⟨b, bt, hbt⟩ := List.exists_cons_of_length_pos (show 0 < bs.length by omega)
            have hin : q (b.toNat % 26) = true := by
              rw [← hq, hbt]
              simp [les]
            have := List.getElem?_eq_some_iff.1 (lts_get q (b.toNat % 26) (Nat.mod_lt _ (by decide)) hin)
            obtain ⟨h, _⟩ := this
            omega
          obtain ⟨-, ⟨_, hn0⟩ | ⟨g, gc, cur, hu, hgb, hgc, hng, hgm, hcs, htk⟩⟩ := hown
          · omega
          obtain ⟨m, hm⟩ : ∃ m, (E.lts q).length = m := ⟨_, rfl⟩
          rw [hm] at hu hpos hng htk
          have hm26 : m ≤ 26 := by
            rw [← hm, lts_len]
            exact Nat.le_trans (List.length_filter_le _ _) (by simp)
          have hgX : g < X.heap.size := (Array.getElem?_eq_some_iff.1 hgc).1
          have hcm : cq q 26 = m := by rw [← lts_len, hm]
          have HRG : Hid (∀ c, c < 26 → q c = true → cq q c < m ∧ X.cell? ⟨g, cq q c, none⟩ = some (.string ⟨#[UInt8.ofNat (97 + c)]⟩)) := by
            refine hide fun c hc h => ?_
            have h1 := lts_get q c hc h
            have h2 := (List.getElem?_eq_some_iff.1 h1).1
            rw [hm] at h2
            refine ⟨h2, ?_⟩
            unfold World.cell?
            simp only [hgc]
            have h3 : cur[cq q c]? = some (encStr (E.one1 c)) := by
              rw [← Array.getElem?_toList, ← List.getElem?_take_of_lt (j := m * 1) (by omega), htk, List.getElem?_map, h1]
              rfl
            rw [h3]
            rfl
          obtain rfl := hu
          have HIN := hide (And.intro hgc (And.intro hcs htk))
          clear hgc hcs htk
          go_wp2
          go_loopw [11, 12] (fun p u wz => ∃ c : Nat, p = .int .i64 (cq q c : Int) ∧ u = .int .i64 (c : Int) ∧ c ≤ 26 ∧ Below X.heap.size X wz) (fun _ u _ => 26 - (intOf u).toNat)
          case atStart => exact ⟨0, rfl, rfl, Nat.zero_le _, Below.refl _ _⟩
          case round =>
            obtain ⟨c, rfl, rfl, hc, hbz⟩ := hrel
            have hnm : cq q c ≤ 26 := Nat.le_trans (List.length_filter_le _ _) (by simpa using hc)
            by_cases hc26 : c < 26
            · have hcz := (HK3.out.later (hbz.block B (by omega))).cell c hc26
              by_cases hqc : q c = true
              · obtain ⟨hlt2, hgz⟩ := HRG.out c hc26 hqc
                rw [hqc] at hcz
                have hgz' := (hbz.cell (p := ⟨g, cq q c, none⟩) hgX).trans hgz
                go_wp2
                obtain ⟨y, hy⟩ : ∃ y : Nat, 97 + c = y := ⟨_, rfl⟩
                refine Reg.start (B := wr.heap.size) (by kernel_rfl) ?_
                refine Reg.take (fun _ _ _ _ _ h => h) 0 _ 59 (.int .i64 (cq q c : Int)) rfl (by kernel_rfl) (by kernel_rfl) (by kernel_rfl) rfl (by kernel_rfl) (by kernel_rfl) (fun wx hb => by kernel_rfl) ?_
                refine Reg.take (fun _ _ _ _ _ h => h) 1 _ 60 (.slice (some ⟨g, 0, none⟩) m gc) rfl (by kernel_rfl) (by kernel_rfl) (by kernel_rfl) rfl (by kernel_rfl) (by kernel_rfl) (fun wx hb => by kernel_rfl) ?_
                refine Reg.take (fun _ _ _ _ _ h => h) 2 _ 61 (.int .i64 (m : Int)) rfl (by kernel_rfl) (by kernel_rfl) (by kernel_rfl) rfl (by kernel_rfl) (by kernel_rfl) (fun wx hb => by kernel_rfl) ?_
                refine Reg.take (fun _ _ _ _ _ h => h) 3 _ 62 (.bool false) rfl (by kernel_rfl) (by kernel_rfl) (by kernel_rfl) rfl (by kernel_rfl) (by kernel_rfl) (fun wx hb => Rn.geq (m := (cq q c : Int)) (n := (m : Int)) rfl (by kernel_rfl) (by kernel_rfl) (decide_eq_false (by omega))) ?_
                refine Reg.take (fun _ _ _ _ _ h => h) 4 _ 63 (.bool false) rfl (by kernel_rfl) (by kernel_rfl) (by kernel_rfl) rfl (by kernel_rfl) (by kernel_rfl) (fun wx hb => by kernel_rfl) ?_
                refine Reg.take (fun _ _ _ _ _ h => h) 5 _ 64 (.slice (some ⟨g, 0, none⟩) m gc) rfl (by kernel_rfl) (by kernel_rfl) (by kernel_rfl) rfl (by kernel_rfl) (by kernel_rfl) (fun wx hb => by kernel_rfl) ?_
                refine Reg.take (fun _ _ _ _ _ h => h) 6 _ 65 (.int .i64 (cq q c : Int)) rfl (by kernel_rfl) (by kernel_rfl) (by kernel_rfl) rfl (by kernel_rfl) (by kernel_rfl) (fun wx hb => by kernel_rfl) ?_
                refine Reg.take (fun _ _ _ _ _ h => h) 7 _ 66 (.pointer (some ⟨g, 0 + cq q c * 1, none⟩)) rfl (by kernel_rfl) (by kernel_rfl) (by kernel_rfl) rfl (by kernel_rfl) (by kernel_rfl) (fun wx hb => Rcl.ix (q := .i64) (cap := gc) rfl (by kernel_rfl) (by kernel_rfl) hlt2 (by kernel_rfl) (by kernel_rfl)) ?_
                refine Reg.take (fun _ _ _ _ _ h => h) 8 _ 67 (.string ⟨#[UInt8.ofNat (97 + c)]⟩) rfl (by kernel_rfl) (by kernel_rfl) (by kernel_rfl) rfl (by kernel_rfl) (by kernel_rfl) (fun wx hb => Rcl.ld1 (a := ⟨g, 0 + cq q c * 1, none⟩) rfl (by kernel_rfl) (by rw [Nat.zero_add, Nat.mul_one]; exact (hb.cell (p := ⟨g, cq q c, none⟩) (Nat.lt_of_lt_of_le hgX hbz.size)).trans hgz') (Tryz.isAgg9 _)) ?_
                refine Reg.take (fun _ _ _ _ _ h => h) 9 _ 68 (.int .i64 (c : Int)) rfl (by kernel_rfl) (by kernel_rfl) (by kernel_rfl) rfl (by kernel_rfl) (by kernel_rfl) (fun wx hb => by kernel_rfl) ?_
                refine Reg.take (fun _ _ _ _ _ h => h) 10 _ 69 (.int .u8 (c : Int)) rfl (by kernel_rfl) (by kernel_rfl) (by kernel_rfl) rfl (by kernel_rfl) (by kernel_rfl) (fun wx hb => Rn.cv8 hc26 rfl (by kernel_rfl)) ?_
                refine Reg.take (fun _ _ _ _ _ h => h) 11 _ 70 (.int .u8 (y : Int)) rfl (by kernel_rfl) (by kernel_rfl) (by kernel_rfl) rfl (by kernel_rfl) (by kernel_rfl) (fun wx hb => Rn.ad8 hc26 hy rfl rfl (by kernel_rfl)) ?_
                obtain ⟨i0, hi0, hz0, hz1⟩ : ∃ i0, Tryz.prog.info? 5 = some i0 ∧ i0.zero = some (.int .u8 0) ∧ i0.size = 1 := ⟨_, rfl, rfl, rfl⟩
                have hyb : y < 256 := by omega
                refine Reg.only 12 _ 71 rfl (by kernel_rfl) rfl (by kernel_rfl) (by kernel_rfl) ⟨.slice (some ⟨wr.heap.size, 0, none⟩) 1 1, wr.drew.alloc (.cells #[.int .u8 (y : Int)] 5), wr.heap.size, U.Reg.bs (vs := #[(0, .int .u8 (y : Int))]) (cs := #[.int .u8 (y : Int)]) i0 (.int .u8 0) rfl (by kernel_rfl) Tryz.underlying41 hi0 hz0 (by rw [hz1]; decide) (by rw [hz1]; decide) (by rw [hz1]; kernel_rfl), Nat.le_refl _, (show Below wr.heap.size wr.drew (wr.drew.alloc (.cells #[.int .u8 (y : Int)] 5)) from al1 wr.drew (.cells #[.int .u8 (y : Int)] 5)), ?_⟩
                refine Reg.only 13 _ 72 rfl (by kernel_rfl) rfl (by kernel_rfl) (by kernel_rfl) ⟨.string ⟨#[UInt8.ofNat y]⟩, wr.drew.alloc (.cells #[.int .u8 (y : Int)] 5), wr.heap.size, Reg.cvt rfl (by kernel_rfl) (cv1 wr.drew wr.heap.size y hyb rfl), Nat.le_refl _, Below.refl _ _, ?_⟩
                refine Reg.only 14 _ 73 rfl (by kernel_rfl) rfl (by kernel_rfl) (by kernel_rfl) ⟨.bool false, wr.drew.alloc (.cells #[.int .u8 (y : Int)] 5), wr.heap.size, Rn.neS (s := ⟨#[UInt8.ofNat y]⟩) rfl (by subst hy; kernel_rfl) (by kernel_rfl), Nat.le_refl _, Below.refl _ _, ?_⟩
                refine Reg.only 15 _ 74 rfl (by kernel_rfl) rfl (by kernel_rfl) (by kernel_rfl) ⟨.bool false, wr.drew.alloc (.cells #[.int .u8 (y : Int)] 5), wr.heap.size, Rcl.pk (b := false) rfl (by kernel_rfl) (by kernel_rfl), Nat.le_refl _, Below.refl _ _, ?_⟩
                refine Reg.done (by kernel_rfl) ?_
                simp only [Reg.ov, Act.put, List.setIfInBounds_toArray, List.set_cons_succ, List.set_cons_zero]
                have hbf : Below X.heap.size X (wr.drew.alloc (.cells #[.int .u8 (y : Int)] 5)) := hbz.drew.trans ((al1 wr.drew (.cells #[.int .u8 (y : Int)] 5)).mono hbz.size)
                have hcs1 : (cq q c : Int) + 1 = (cq q (c + 1) : Int) := by rw [cq_succ, if_pos hqc]; omega
                obtain ⟨Z, hZ⟩ : ∃ Z, wr.drew.alloc (.cells #[.int .u8 (y : Int)] 5) = Z := ⟨_, rfl⟩
                rw [hZ] at hbf ⊢
                clear hZ hi0 hz0 hz1
                go_wp2
                exact ⟨⟨c + 1, rfl, by go_num, by omega, hbf⟩, by simp [intOf]; omega⟩
              · have hqf : q c = false := by simpa using hqc
                rw [hqf] at hcz
                have hcs1 : cq q (c + 1) = cq q c := by rw [cq_succ, if_neg hqc]; rfl
                go_wp2
                exact ⟨⟨c + 1, by rw [hcs1], by go_num, by omega, hbz⟩, by simp [intOf]; omega⟩
            · obtain rfl : c = 26 := by omega
              rw [hcm]
              have hEz := (hbz.block _ hEX).trans HNX.out
              obtain ⟨r0, r1, r2, r3, r4⟩ := cells_five hEz
              have hpl := places_any t d wr (TR.later (fun k hk => hbz.block k hk) _ HTX.out) p3
              rw [p5] at hpl
              unfold ND.v at hpl
              have hbW := nx hbX hbz
              clear hEz
              go_wp2_with fail
              refine hpl.mono ?_
              rintro e Y ⟨rfl, hbY⟩
              have hbW2 := nx hbW hbY
              go_wp2
              go_ret
              exact ⟨rfl, hbW2⟩
end Go.Proofs.YteaaijhppmkfeaaGreatDoor
