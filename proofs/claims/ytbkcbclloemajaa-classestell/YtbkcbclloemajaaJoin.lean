/- joined: the set of all that an iterator gives. -/
import Derived.Test.YtbkcbclloemajaaSort
import Derived.Test.YtbkcbclloemajaaAppR
namespace Go.Proofs.Ytbkcbclloemajaa
open Go.RowKit Go.Shelf

theorem elemSize49 (w : World) : (sizeOf (Try.prog.elem 80)).run Try.prog w = .ok 2 w := by kernel_rfl
theorem OwnR.base {w : World} {B B' : Nat} {e : TypeId} {v : Value} {xs : List S.R} (h : OwnR w B e v xs) (hb : B' ≤ B) : OwnR w B' e v xs := by
  obtain ⟨h1, h2 | ⟨g, cap, cur, rfl, h3, h4⟩⟩ := h
  · exact ⟨h1, .inl h2⟩
  · exact ⟨h1, .inr ⟨g, cap, cur, rfl, Nat.le_trans hb h3, h4⟩⟩
theorem glue_nil (s : S.R) : S.glue [] s = [s] := rfl
theorem glue_apart (o : List S.R) (z s : S.R) (h : z.2 + 1 < s.1) : S.glue (o ++ [z]) s = o ++ [z] ++ [s] := by simp [S.glue, h]
theorem glue_join (o : List S.R) (z s : S.R) (h : ¬ z.2 + 1 < s.1) : S.glue (o ++ [z]) s = o ++ [(z.1, max z.2 s.2)] := by simp [S.glue, h]

set_option maxRecDepth 100000 in
set_option maxHeartbeats 4000000 in
theorem joined_any (v0 : Value) (zs : List S.R) (hg : ∀ r ∈ zs, S.good r = true) (hl : zs.length ≤ 1000000) (w : World) (hit : Iter v0 zs w) :
    Calls Try.prog 45 #[v0] w fun e W' => ∃ u out, e = .returned u ∧ OwnR W' w.heap.size 76 u out ∧ S.Canon out ∧ (∀ p, S.has out p ↔ S.has zs p) ∧ out.length ≤ zs.length ∧ Below w.heap.size w W' := by
  have h := sorted_any v0 zs hl w hit
  obtain ⟨gf, lb, rfl, _, _⟩ := hit
  go_enter Try.func45, Try.ntmps45
  go_wp2_with fail
  refine h.mono ?_
  rintro e w1 ⟨ao, cap, d, rfl, hrd, hpm, hso, hb1⟩
  have hdl : d.length = zs.length := hpm.length_eq
  have hgd : ∀ r ∈ d, S.good r = true := fun r hr => hg r (hpm.mem_iff.1 hr)
  have HP := hide hpm
  have HD := hide hdl
  have hd6 : d.length ≤ 1000000 := by omega
  clear hpm hdl hg h
  go_wp2
  go_loopw [3, 12] (fun v p wr => ∃ (k : Nat) (out : List S.R), p = .int .i64 (k : Int) ∧ k ≤ d.length ∧ OwnR wr w1.heap.size 76 v out ∧ S.Glued (d.take k) out ∧ out.length ≤ k ∧ Below w1.heap.size w1 wr) (fun _ p _ => d.length - (intOf p).toNat)
  case atStart => exact ⟨0, [], rfl, Nat.zero_le _, ownR_nil _ _ _, S.glued_nil, Nat.le_refl _, Below.refl _ _⟩
  case round =>
    obtain ⟨k, out, rfl, hk, ho, hG, hol, hB⟩ := hrel
    by_cases hlt : k < d.length
    · obtain ⟨b, off, rfl, hc1, hc2⟩ := (hrd.later hB) k hlt
      have HT : Hid (d.take (k + 1) = d.take k ++ [d[k]]) := List.take_succ_eq_append_getElem hlt
      have hgk := hgd _ (List.getElem_mem hlt)
      have hlow : ∀ r ∈ d.take k, r.1 ≤ d[k].1 := by
        intro r hr
        obtain ⟨i, hi, rfl⟩ := List.mem_iff_getElem.1 hr
        rw [List.length_take] at hi
        rw [List.getElem_take]
        exact (List.pairwise_iff_getElem.1 hso) i k (by omega) hlt (by omega)
      have hst := hide (hG.step hgk hlow)
      rw [← HT.out] at hst
      have hgk2 := (S.good_iff _).1 hgk
      generalize d[k] = s at *
      obtain ⟨s1, s2⟩ := s
      obtain ⟨av, cv, rfl, hcv, hnv, hrv⟩ := ho.rd
      have hBa : ∀ q, Below w1.heap.size w1 ((wr.alloc (.cells #[.int .i32 s1, .int .i32 s2] 76)).drewN q) := fun q => below_drewN (nx hB (al1 _ _)) q
      have hba : ∀ q, Below wr.heap.size wr ((wr.alloc (.cells #[.int .i32 s1, .int .i32 s2] 76)).drewN q) := fun q => below_drewN (al1 _ _) q
      have hs0 := cells_two (World.alloc_heap_new wr (.cells #[.int .i32 s1, .int .i32 s2] 76))
      have hszr : (wr.alloc (.cells #[.int .i32 s1, .int .i32 s2] 76)).heap.size = wr.heap.size + 1 := by simp
      simp only at hgk2
      rcases out.eq_nil_or_concat with rfl | ⟨o, z, rfl⟩
      · rw [glue_nil] at hst
        clear hrv hG hlow HT hso hgd hgk
        simp only [List.length_nil] at hcv ⊢
        go_wp2_with fail
        go_quiet (fail)
        have hBq := hBa nq
        have hoq := ho.later (hba nq)
        have hsq0 : ((wr.alloc (.cells #[.int .i32 s1, .int .i32 s2] 76)).drewN nq).cell? ⟨wr.heap.size, 0, none⟩ = some (.int .i32 s1) := hs0.1
        have hsq1 : ((wr.alloc (.cells #[.int .i32 s1, .int .i32 s2] 76)).drewN nq).cell? ⟨wr.heap.size, 1, none⟩ = some (.int .i32 s2) := hs0.2
        clear hBa hba hs0 ho hszr
        generalize (wr.alloc (.cells #[.int .i32 s1, .int .i32 s2] 76)).drewN nq = wq at *
        go_wp2_with (at_builtin; refine wpl_appR Try.underlying80 info56 rfl _ _ rfl w1.heap.size _ [] (some ⟨wq.heap.size, 0, none⟩) [(s1, s2)] 1 1 rfl rfl rfl (OwnR.later hoq (al1 _ _)) (by have := hBq.size; simp at this ⊢; omega) (rdr_new _ s1 s2 _) (fun e => by cases e) (by simp) ?_; intro v' w5 hown' hb5 hgr5)
        rw [List.nil_append] at hown'
        go_roundw
        case rel => exact ⟨k + 1, _, by go_num, by omega, hown', hst.out, by simp, (nx hBq (al1 _ _)).trans hb5⟩
        case measure => simp [intOf]; omega
      · rw [List.concat_eq_append] at *
        have hgz := (S.good_iff z).1 (hG.canon.good z (by simp))
        obtain ⟨b2, off2, rfl, _, _⟩ := hrv 0 (by simp)
        have hoff : off2 = 0 := by
          obtain ⟨_, h2 | ⟨_, _, _, e, _⟩⟩ := ho
          · cases h2.1
          · cases e; rfl
        subst hoff
        have hlast := ho.at_last
        obtain ⟨z1, z2⟩ := z
        simp only at hgz hlast
        clear hrv hG hlow HT hso hgd hgk
        have hlen : (o ++ [(z1, z2)]).length = o.length + 1 := by simp
        rw [hlen] at hcv hol hlast ho ⊢
        obtain ⟨_, hb2, hz1, hz2, hfz⟩ := hlast
        have hap := apart_any z1 z2 s1 s2 (by omega) (by omega)
        go_wp2_with fail
        obtain ⟨wa, hwa⟩ : ∃ wa, wa = (wr.alloc (.cells #[.int .i32 s1, .int .i32 s2] 76)).drew := ⟨_, rfl⟩
        have hB1 : Below wr.heap.size wr wa := by rw [hwa]; exact (al1 _ _).drew
        have hbx : wa.heap[wr.heap.size]? = some (.cells #[.int .i32 s1, .int .i32 s2] 76) := by rw [hwa]; exact World.alloc_heap_new wr _
        have hza : wa.rangeAt b2 (0 + o.length * 2) [.int .i32 z1, .int .i32 z2] := by
          rw [Nat.zero_add]
          exact range_two (cell_later hB1 hz1) (cell_later hB1 hz2)
        have hlb : b2 < wa.heap.size := Nat.lt_of_lt_of_le (cell_lt hz1) hB1.size
        have hls : wr.heap.size < wa.heap.size := (Array.getElem?_eq_some_iff.1 hbx).1
        refine Reg.start (B := wa.heap.size) (by kernel_rfl) ?_
        rw [← hwa]
        have hzr : ∀ {wx : World} {b' o' : Nat} {cs : List Value}, wa.rangeAt b' o' cs → b' < wa.heap.size → Below wa.heap.size wa wx → wx.rangeAt b' o' cs := fun h hl hb j v hj => (hb.cell hl).trans (h j v hj)
        refine Reg.take (fun _ _ _ _ _ h => h) 0 _ 19 (.int .i64 (o.length : Int)) rfl (by kernel_rfl) (by kernel_rfl) (by kernel_rfl) rfl (by kernel_rfl) (by kernel_rfl) (fun _ _ => by kernel_rfl) ?_
        refine Reg.take (fun _ _ _ _ _ h => h) 1 _ 20 (.bool false) rfl (by kernel_rfl) (by kernel_rfl) (by kernel_rfl) rfl (by kernel_rfl) (by kernel_rfl) (fun _ _ => Reg.lss (k := .i64) (m := (o.length : Int)) (n := 0) rfl (by kernel_rfl) (by kernel_rfl) (by simp)) ?_
        refine Reg.take (fun _ _ _ _ _ h => h) 2 _ 21 (.bool false) rfl (by kernel_rfl) (by kernel_rfl) (by kernel_rfl) rfl (by kernel_rfl) (by kernel_rfl) (fun _ _ => by kernel_rfl) ?_
        refine Reg.take (fun _ _ _ _ _ h => h) 3 _ 22 (.slice (some ⟨b2, 0, none⟩) (o.length + 1) cv) rfl (by kernel_rfl) (by kernel_rfl) (by kernel_rfl) rfl (by kernel_rfl) (by kernel_rfl) (fun _ _ => by kernel_rfl) ?_
        refine Reg.take (fun _ _ _ _ _ h => h) 4 _ 23 (.int .i64 (o.length : Int)) rfl (by kernel_rfl) (by kernel_rfl) (by kernel_rfl) rfl (by kernel_rfl) (by kernel_rfl) (fun _ _ => by kernel_rfl) ?_
        refine Reg.take (fun _ _ _ _ _ h => h) 5 _ 24 (.pointer (some ⟨b2, 0 + o.length * 2, none⟩)) rfl (by kernel_rfl) (by kernel_rfl) (by kernel_rfl) rfl (by kernel_rfl) (by kernel_rfl) (fun wx _ => Reg.ix (len := o.length + 1) (cap := cv) (q := .i64) rfl (by kernel_rfl) (by kernel_rfl) (by omega) Try.underlying80 (elemSize49 wx)) ?_
        refine Reg.take (fun _ _ _ _ _ h => h) 6 _ 25 (.agg #[.int .i32 z1, .int .i32 z2]) rfl (by kernel_rfl) (by kernel_rfl) (by kernel_rfl) rfl (by kernel_rfl) (by kernel_rfl) (fun wx hb => Reg.ld (cs := [.int .i32 z1, .int .i32 z2]) rfl (by kernel_rfl) (hzr hza hlb hb) Try.underlying76 rfl (by kernel_rfl)) ?_
        refine Reg.take (fun _ _ _ _ _ h => h) 7 _ 26 (.agg #[.int .i32 s1, .int .i32 s2]) rfl (by kernel_rfl) (by kernel_rfl) (by kernel_rfl) rfl (by kernel_rfl) (by kernel_rfl) (fun wx hb => Reg.ld (cs := [.int .i32 s1, .int .i32 s2]) rfl (by kernel_rfl) (hzr (range_block hbx) hls hb) Try.underlying76 rfl (by kernel_rfl)) ?_
        refine Reg.call 8 _ 27 40 _ _ #[.agg #[.int .i32 z1, .int .i32 z2], .agg #[.int .i32 s1, .int .i32 s2]] rfl (by kernel_rfl) rfl (by kernel_rfl) (by kernel_rfl) rfl (by kernel_rfl) (by kernel_rfl) (hap wa) ?_
        clear hap
        rintro e wq ⟨rfl, hbq⟩
        refine ⟨_, wq.heap.size, rfl, hbq.size, hbq, ?_⟩
        obtain ⟨r, hr⟩ : ∃ r, decide (z2 + 1 < s1) = r := ⟨_, rfl⟩
        rw [hr]
        refine Reg.take (fun _ _ _ _ _ h => h) 9 _ 28 (.bool r) rfl (by kernel_rfl) (by kernel_rfl) (by kernel_rfl) rfl (by kernel_rfl) (by kernel_rfl) (fun _ _ => by kernel_rfl) ?_
        refine Reg.done_at (by kernel_rfl) { tmps := #[.func (.func gf) #[] lb, undef, .slice none 0 0, .slice (some ⟨b2, 0, none⟩) (o.length + 1) cv, .slice (some ⟨b, off, none⟩) d.length cap, undef, .pointer (some ⟨wr.heap.size, 0, none⟩), .int .i64 (o.length : Int), .func (.func gf) #[] lb, .slice (some ⟨b, off, none⟩) d.length cap, .slice (some ⟨b, off, none⟩) d.length cap, .int .i64 (d.length : Int), .int .i64 (k : Int), .bool true, .pointer (some ⟨b, off + k * 2, none⟩), .agg #[.int .i32 s1, .int .i32 s2], .slice (some ⟨b2, 0, none⟩) (o.length + 1) cv, .int .i64 ((o.length : Int) + 1), .int .i64 (o.length : Int), .int .i64 (o.length : Int), .bool false, .bool false, .slice (some ⟨b2, 0, none⟩) (o.length + 1) cv, .int .i64 (o.length : Int), .pointer (some ⟨b2, 0 + o.length * 2, none⟩), .agg #[.int .i32 z1, .int .i32 z2], .agg #[.int .i32 s1, .int .i32 s2], .bool r, .bool r, u29, u30, u31, u32, u33, u34, u35, u36, u37, u38, u39, u40, u41, u42, u43, u44, u45, undef], defers := [] } (by kernel_rfl) ?_
        have hB2 := nx hB1 hbq
        have hoq := ho.later hB2
        have hBq := nx hB hB2
        have hsq0 := (hbq.cell (p := ⟨wr.heap.size, 0, none⟩) hls).trans (cells_two hbx).1
        have hsq1 := (hbq.cell (p := ⟨wr.heap.size, 1, none⟩) hls).trans (cells_two hbx).2
        have hlsq : wr.heap.size < wq.heap.size := Nat.lt_of_lt_of_le hls hbq.size
        have hwr := hB.size
        clear hBa hba hs0 hszr hza hzr hlb hbx hB1 hbq hwa hz1 hz2 hfz hB2 ho hB hc1 hc2
        cases r with
        | true =>
          have hlt2 : z2 + 1 < s1 := by simpa using hr
          have HG : Hid (S.Glued (List.take (k + 1) d) (o ++ [(z1, z2)] ++ [(s1, s2)])) := by
            have := hst.out
            rw [glue_apart o (z1, z2) (s1, s2) hlt2] at this
            exact this
          clear hst hr
          go_wp2_with (at_builtin; refine wpl_appR Try.underlying80 info56 rfl _ _ rfl w1.heap.size _ (o ++ [(z1, z2)]) (some ⟨wq.heap.size, 0, none⟩) [(s1, s2)] 1 1 rfl rfl rfl (OwnR.later hoq (al1 _ _)) (by have := hBq.size; simp at this ⊢; omega) (rdr_new _ s1 s2 _) (fun e => by cases e) (by simp at hol ⊢; omega) ?_; intro v' w5 hown' hb5 hgr5)
          go_roundw
          case rel => exact ⟨k + 1, _, by go_num, by omega, hown', HG.out, by simp at hol ⊢; omega, (nx hBq (al1 _ _)).trans hb5⟩
          case measure => simp [intOf]; omega
        | false =>
          have hlt2 : ¬ z2 + 1 < s1 := by simpa using hr
          have HG : Hid (S.Glued (List.take (k + 1) d) (o ++ [(z1, max z2 s2)])) := by
            have := hst.out
            rw [glue_join o (z1, z2) (s1, s2) hlt2] at this
            exact this
          clear hst hr
          obtain ⟨_, hb2', hz1, hz2, hfz⟩ := hoq.at_last
          have hmx : (if z2 < s2 then s2 else z2) = max z2 s2 := by omega
          have hnew := hoq.set_last (max z2 s2)
          go_wp2_with fail
          go_region
          have hnw : OwnR (wq.setCell ⟨b2, o.length * 2 + 1, none⟩ (.int .i32 (max z2 s2))).drew w1.heap.size 76 (.slice (some ⟨b2, 0, none⟩) (o.length + 1) cv) (o ++ [(z1, max z2 s2)]) := hnew
          have hBn : Below w1.heap.size w1 (wq.setCell ⟨b2, o.length * 2 + 1, none⟩ (.int .i32 (max z2 s2))).drew := (hBq.setCell (p := ⟨b2, o.length * 2 + 1, none⟩) hb2' _).drew
          clear hnew
          generalize (wq.setCell ⟨b2, o.length * 2 + 1, none⟩ (.int .i32 (max z2 s2))).drew = wn at *
          go_wp2
          go_roundw
          case rel => exact ⟨k + 1, _, by go_num, by omega, hnw, HG.out, by simp at hol ⊢; omega, hBn⟩
          case measure => simp [intOf]; omega
    · obtain rfl : k = d.length := by omega
      rw [List.take_length] at hG
      go_wp2
      go_ret
      exact ⟨_, out, rfl, ho.base hb1.size, hG.canon, fun p => by rw [hG.mem, S.has_perm HP.out], by rw [← HD.out]; exact hol, nx hb1 hB⟩

set_option maxHeartbeats 1000000 in
/-- setOf: the set of all good ranges of lists, in memory of its own. -/
theorem setOf_any (b off cap : Nat) (ls : List L3) (hl : ls.length ≤ 1000) (hl2 : ∀ p ∈ ls, p.2.2.length ≤ 1000000) (hfl : (flat ls).length ≤ 1000000) (w : World) (hr : RdL w b off ls) :
    Calls Try.prog 35 #[.slice (some ⟨b, off, none⟩) ls.length cap] w fun e W' => ∃ u, e = .returned u ∧ OwnR W' w.heap.size 76 u (S.set (flat ls)) ∧ (S.set (flat ls)).length ≤ (flat ls).length ∧ Below w.heap.size w W' := by
  go_enter Try.func35, Try.ntmps35
  go_wp2_with fail
  refine (goodSpans_gives b off cap ls hl hl2 w hr).mono ?_
  rintro e w1 ⟨v, rfl, hit, hb1⟩
  have hgl : (S.goods (flat ls)).length ≤ (flat ls).length := List.length_filter_le _ _
  have h := joined_any v (S.goods (flat ls)) (fun r hr => S.goods_good hr) (by omega) w1 hit
  obtain ⟨gf, lb, rfl, _, _⟩ := hit
  go_wp2_with fail
  refine h.mono ?_
  rintro e w2 ⟨u, out, rfl, ho, hC, hm, hol, hb2⟩
  obtain rfl : out = S.set (flat ls) := S.set_eq hC hm
  have hq := ho.base hb1.size
  obtain ⟨ao, cp, rfl, _⟩ := ho.rd
  go_wp2
  go_ret
  exact ⟨_, rfl, hq, by omega, nx hb1 hb2⟩
end Go.Proofs.Ytbkcbclloemajaa
