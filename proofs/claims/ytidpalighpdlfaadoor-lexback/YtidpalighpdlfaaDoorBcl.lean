/- What LexBack says: the walk. -/
import Derived.Test.YtidpalighpdlfaaDoorWdl
import Derived.Deep.QuietTactic
import Derived.BigQuiet
import Derived.WalkSmall
import Derived.Deep.RegionHeld3
namespace Go.Proofs.YtidpalighpdlfaaDoor
open Go.RowKit
namespace X
open M
theorem next_short {s : List UInt8} {t : Tk} {n : Nat} (h : nextL s = some (t, n)) : t.text.length ≤ n := by
  cases s with
  | nil => simp [nextL] at h
  | cons c u =>
    unfold nextL at h
    simp only at h
    split at h
    · cases h; simp
    · split at h
      · split at h
        · cases h
          simp
        · cases h
      · split at h
        · split at h
          · cases h
            exact Nat.le_refl _
          · cases h
        · split at h
          · cases h
            exact Nat.le_refl _
          · split at h
            · unfold word at h
              cases hw : wordB u with
              | none => rw [hw] at h; cases h
              | some p =>
                rw [hw] at h
                have := wordB_size u p hw
                simp only at h
                split at h
                · cases h; simp; omega
                · cases h
            · split at h
              · unfold charL at h
                cases u with
                | nil => cases h
                | cons x v =>
                  simp only at h
                  split at h
                  · unfold charN at h
                    split at h
                    · split at h
                      · cases h
                        simp
                      · cases h
                    · cases h
                  · split at h
                    · cases h
                      simp
                    · cases h
              · split at h
                · split at h
                  · cases h
                    simp
                  · cases h
                · split at h
                  · cases h
                    simp; omega
                  · split at h
                    · cases h; simp
                    · cases h
theorem one_short {t : Tk} {o : List UInt8} (hr : 0 ≤ t.r ∧ t.r ≤ 1114111) (h : one t = some o) : o.length ≤ 2 * t.text.length + 11 := by
  unfold one at h
  have hq := quoteB_len t.text
  have := hexd_len 5 (max 0 (min t.r 1114111)).toNat (by omega)
  repeat' split at h
  all_goals cases h
  all_goals first | (simp; omega) | (unfold codeB; simp; omega)
theorem tail_short : ∀ (at_ : Nat) (s : List UInt8) (l : List (Tk × Nat)), scan at_ s = .ok l → ∀ b, (tailP b (l.map (·.1))).length ≤ 14 * s.length := by
  refine scan_ind (p := fun at_ s => ∀ l, scan at_ s = .ok l → ∀ b, (tailP b (l.map (·.1))).length ≤ 14 * s.length) ?_ ?_ ?_ ?_ ?_
  · intro at_ l h b
    rw [scan_nil] at h
    cases h
    simp [tailP, one]
  · intro at_ c u hb ih l h b
    rw [scan_blank _ _ hb] at h
    have := ih l h b
    simp only [List.length_cons]
    omega
  · intro at_ u ih l h b
    rw [scan_com] at h
    have := ih l h b
    rw [List.length_drop] at this
    omega
  · intro at_ c u hb hc hn l h
    rw [scan_none _ _ hb hc hn] at h
    cases h
  · intro at_ c u t n hb hc hn ih l h b
    rw [scan_some _ _ hb hc hn] at h
    have hs := next_size hn
    have ht := next_text hn
    have hsh := next_short hn
    cases hr : scan (at_ + n) ((c :: u).drop n) with
    | error e => rw [hr] at h; cases h
    | ok m =>
      rw [hr] at h
      cases h
      have ih := ih m hr
      rw [List.length_drop] at ih
      rw [List.map_cons]
      unfold tailP
      split
      · have := ih false
        simp only [List.length_cons] at this hs ⊢
        omega
      · split
        · have := ih b
          simp only [List.length_cons] at this hs ⊢
          omega
        · rename_i o ho
          have := one_short ht.2 ho
          have := ih true
          simp only [List.length_append, List.length_cons] at this hs ⊢
          split
          · simp only [List.length_cons]; omega
          · omega
theorem scan_rise {s : List UInt8} {l : List (Tk × Nat)} (h : scan 0 s = .ok l) : ∀ i (h1 : i + 1 < l.length), (l[i]'(by omega)).2 ≤ l[i + 1].2 := by
  obtain ⟨l', rfl, h2, h3⟩ := (scan_out 0 s).1 l h
  have hp : (l' ++ [(tEnd, 0 + s.length)]).Pairwise (fun x y => x.2 ≤ y.2) := by
    refine List.pairwise_append.2 ⟨h3.imp (fun h => by omega), by simp, fun a ha b hb => ?_⟩
    simp at hb
    rw [hb]
    have := (h2 a ha).2.2
    simp only
    omega
  intro i h1
  exact List.pairwise_iff_getElem.1 hp i (i + 1) (by omega) h1 (by omega)
theorem print_back {s : List UInt8} {l : List (Tk × Nat)} (h : scan 0 s = .ok l) : ∃ l2, scan 0 (tailP false (l.map (·.1))) = .ok l2 ∧ l2.map (·.1) = l.map (·.1) := by
  obtain ⟨l2, h2, h3⟩ := back h
  refine ⟨l2, ?_, h3⟩
  obtain ⟨l', rfl, h1, _⟩ := (scan_out 0 s).1 l h
  have e : printL ((l' ++ [(tEnd, 0 + s.length)]).map (·.1)) = tailP false ((l' ++ [(tEnd, 0 + s.length)]).map (·.1)) := by
    unfold printL
    rw [print_tail _ (fun t ht => ?_) []]
    · rfl
    · obtain ⟨p, hp, rfl⟩ := List.mem_map.1 ht
      rcases List.mem_append.1 hp with hp | hp
      · exact .inl (h1 p hp).1
      · simp at hp; rw [hp]; exact .inr rfl
  rw [← e]
  exact h2
end X
theorem below_two {a w : World} (h : Below a.heap.size a w) (o1 o2 : Obj) (n : Nat) (p q : Addr) (hp : a.heap.size ≤ p.block) (hq : a.heap.size ≤ q.block) (u v : Value) : Below a.heap.size a (((((w.alloc o1).alloc o2).drewN n).setCell p u).setCell q v) :=
  have h1 := h.alloc h.size o1
  ((below_drewN (h1.alloc h1.size o2) n).setCell hp u).setCell hq v
set_option maxRecDepth 100000 in
set_option maxHeartbeats 1000000 in
theorem back_any (s : ByteArray) (w : World) (ht : Tabs w) (hd : Deb w) : Calls Tryd.prog 3 #[.string s] w fun e w' => e = .returned (.bool true) ∧ Below w.heap.size w w' := by
  have hk := known_any w ht hd
  by_cases h6 : 600 < s.size
  · have g1 : decide ((600 : Int) < (s.size : Int)) = true := decide_eq_true (by omega)
    go_enter Tryd.func3, Tryd.ntmps3
    go_wp2_with fail
    refine hk.mono ?_
    rintro e w1 ⟨rfl, hb1⟩
    go_wp2
    go_ret
    exact ⟨rfl, hb1⟩
  have g1 : decide ((600 : Int) < (s.size : Int)) = false := decide_eq_false (by omega)
  have hs1 := scan_of (b := bts s) (r := X.scan 0 (bts s)) rfl (by rw [bts_len]; omega)
  rw [mk_bts] at hs1
  cases hsc : X.scan 0 (bts s) with
  | error a =>
    rw [hsc] at hs1
    have ha := (X.scan_out 0 (bts s)).2 a hsc
    rw [bts_len] at ha
    have g2 : decide ((0 : Int) ≤ (a : Int)) = true := decide_eq_true (by omega)
    have g3 : decide (a < s.size) = true := decide_eq_true (by omega)
    have HS1 := hide hs1
    clear hs1 hsc
    go_enter Tryd.func3, Tryd.ntmps3
    go_wp2_with fail
    refine hk.mono ?_
    rintro e w1 ⟨rfl, hb1⟩
    go_wp2_with fail
    refine (HS1.out _ (ht.later hb1)).mono ?_
    rintro e w2 ⟨ha, hb2⟩
    obtain rfl := ha.err
    have hbb := nx hb1 hb2
    clear ha
    go_wp2
    go_ret
    exact ⟨rfl, hbb⟩
  | ok l =>
    rw [hsc] at hs1
    obtain ⟨l2, hsc2, hll⟩ := X.print_back hsc
    have hsh := X.tail_short 0 _ l hsc false
    rw [bts_len] at hsh
    have hs2 := scan_of hsc2 (by omega)
    have hsz := X.scan_sizes 0 (bts s) l hsc
    rw [bts_len] at hsz
    have hle : l2.length = l.length := by simpa using congrArg List.length hll
    have hok : ∀ p ∈ l, okP p.1 := fun p hp => by
      have := hsz.2 p hp
      exact ⟨by omega, fun _ => this.2⟩
    have hok2 : ∀ p ∈ l2, okP p.1 := fun p hp => by
      have : p.1 ∈ l.map (·.1) := by rw [← hll]; exact List.mem_map_of_mem hp
      obtain ⟨q, hq, e⟩ := List.mem_map.1 this
      rw [← e]
      exact hok q hq
    have hat : ∀ i (h1 : i < l.length) (h2 : i < l2.length), l2[i].1 = l[i].1 := fun i h1 h2 => by
      have := congrArg (fun x => x[i]?) hll
      simpa [h1, h2] using this
    have hr1 := X.scan_rise hsc
    have hr2 := X.scan_rise hsc2
    have hla : ∃ l', l = l' ++ [(X.tEnd, s.size)] := by
      obtain ⟨l', h1, _⟩ := (X.scan_out 0 (bts s)).1 l hsc
      exact ⟨l', by rw [h1, bts_len, Nat.zero_add]⟩
    have hlen : 1 ≤ l.length := by obtain ⟨l', rfl⟩ := hla; simp
    have hp1 := fun ao cap W => print_lex ao cap l (by omega) hok W
    have hp2 := fun ao cap W => print_lex ao cap l2 (by omega) hok2 W
    rw [show l2.map Prod.fst = l.map Prod.fst from hll] at hp2
    obtain ⟨q, hq⟩ : ∃ q : ByteArray, ⟨(X.tailP false (l.map Prod.fst)).toArray⟩ = q := ⟨_, rfl⟩
    have hs2' : ∀ W, Tabs W → Calls Tryd.prog 9 #[.string q] W fun e W' => AnsX (.ok l2) W.heap.size e W' ∧ Below W.heap.size W W' := by rw [← hq]; exact hs2
    rw [hq] at hp1 hp2
    have HS1 := hide hs1
    have HS2 := hide hs2'
    have HP1 := hide hp1
    have HP2 := hide hp2
    have HAT := hide hat
    have HR1 := hide hr1
    have HR2 := hide hr2
    have HLA := hide hla
    have hss := str_self q
    have hsl := hsz.1
    clear hs1 hs2 hs2' hp1 hp2 hat hr1 hr2 hla hsc hsc2 hq hok hok2 hsz hsh
    go_enter Tryd.func3, Tryd.ntmps3
    go_wp2_with fail
    refine hk.mono ?_
    rintro e w1 ⟨rfl, hb1⟩
    go_wp2_with fail
    refine (HS1.out _ (ht.later hb1)).mono ?_
    rintro e w2 ⟨ha, hb2⟩
    obtain ⟨v1, rfl, hv1⟩ := ha.ok
    have hbb := nx hb1 hb2
    obtain ⟨ao1, cap1, rfl, _, _, hr1⟩ := hv1.rd
    clear ha hk hv1
    go_wp2_with fail
    refine (HP1.out ao1 cap1 _ hr1 (hd.later hbb)).mono ?_
    rintro e w3 ⟨rfl, hb3⟩
    have hbc := nx hbb hb3
    go_wp2_with fail
    refine (HS2.out _ (ht.later hbc)).mono ?_
    rintro e w4 ⟨ha, hb4⟩
    obtain ⟨v2, rfl, hv2⟩ := ha.ok
    have hbd := nx hbc hb4
    obtain ⟨ao2, cap2, rfl, _, _, hr2⟩ := hv2.rd
    have hpp := HP2.out ao2 cap2 _ hr2 (hd.later hbd)
    rw [hle] at hpp ⊢
    clear ha hv2
    go_wp2_with fail
    refine hpp.mono ?_
    rintro e w5 ⟨rfl, hb5⟩
    have hbe := nx hbd hb5
    have hr1 := (hr1.later hb3).later (nx hb4 hb5)
    have hr2 := hr2.later hb5
    clear hpp
    go_wp2
    clear hss hb1 hbb hb2 hbc hb3 hbd hb4 hb5
    go_loopw [10] (fun u wr => ∃ i : Nat, u = .int .i64 (i : Int) ∧ i ≤ l.length ∧ Below w5.heap.size w5 wr) (fun u _ => l.length - (intOf u).toNat)
    case atStart => exact ⟨0, rfl, Nat.zero_le _, Below.refl _ _⟩
    case round =>
      obtain ⟨i, rfl, hi, hbw⟩ := hrel
      have hr1 := hr1.later hbw
      have hr2 := hr2.later hbw
      have hix := elemSize23
      by_cases hlt : i < l.length
      · obtain ⟨b, off, rfl, c0, c1, c2, c3⟩ := hr1 i hlt
        obtain ⟨b', off', rfl, d0, d1, d2, d3⟩ := hr2 i (by omega)
        have hte := HAT.out i hlt (by omega)
        rw [hte] at d0 d2 d3
        by_cases h0 : i = 0
        · have g0 : decide (0 < i) = false := decide_eq_false (by omega)
          generalize l[i] = p at *
          obtain ⟨⟨kd, tx, r⟩, pk⟩ := p
          generalize (l2[i]'(by omega)).2 = k2 at *
          simp only at c0 c1 c2 c3 d0 d1 d2 d3
          generalize (⟨tx.toArray⟩ : ByteArray) = T at *
          have hTT := str_self T
          clear hte hr1 hr2 h0
          have e0 := World.new_ne wr _ c0
          have e1 := World.new_ne wr _ c1
          have e2 := World.new_ne wr _ c2
          have e3 := World.new_ne wr _ c3
          have f0 := World.new_ne wr _ d0
          have f1 := World.new_ne wr _ d1
          have f2 := World.new_ne wr _ d2
          have f3 := World.new_ne wr _ d3
          go_wp2
          go_region_held3 (fun W => W.cell? ⟨b, off + i * 4, none⟩ = some (.int .i64 (kd : Int)) ∧ W.cell? ⟨b, off + i * 4 + 1, none⟩ = some (.int .i64 (pk : Int)) ∧ W.cell? ⟨b, off + i * 4 + 2, none⟩ = some (.string T) ∧ W.cell? ⟨b, off + i * 4 + 3, none⟩ = some (.int .i32 r) ∧ W.cell? ⟨b', off' + i * 4, none⟩ = some (.int .i64 (kd : Int)) ∧ W.cell? ⟨b', off' + i * 4 + 1, none⟩ = some (.int .i64 (k2 : Int)) ∧ W.cell? ⟨b', off' + i * 4 + 2, none⟩ = some (.string T) ∧ W.cell? ⟨b', off' + i * 4 + 3, none⟩ = some (.int .i32 r)) (go_keep) (fail)
          all_goals
            go_wp2
            go_quiet (fail)
            go_wp2
          all_goals
            go_roundw
            case rel => exact ⟨i + 1, by go_num, by omega, below_two hbw _ _ _ _ _ (by have := hbw.size; simp; omega) (by have := hbw.size; simp; omega) _ _⟩
            case measure => simp [intOf]; omega
        · obtain ⟨j, hj⟩ : ∃ j, i = j + 1 := ⟨i - 1, by omega⟩
          have g0 : decide (0 < i) = true := decide_eq_true (by omega)
          have hwm : IntKind.i64.wrap ((i : Int) - 1) = (j : Int) := by simp [IntKind.wrap, IntKind.bits, IntKind.signed]; omega
          have hjl : (j : Int) < (l.length : Int) := by omega
          obtain ⟨b2, off2, e, z0, cj, z2, z3⟩ := hr1 j (by omega)
          cases e
          clear z0 z2 z3
          obtain ⟨b3, off3, e, z0, dj, z2, z3⟩ := hr2 j (by omega)
          cases e
          clear z0 z2 z3
          have hra := HR1.out j (by omega)
          have hrb := HR2.out j (by omega)
          simp only [← hj] at hra hrb
          generalize (l[j]'(by omega)).2 = pj at *
          generalize (l2[j]'(by omega)).2 = qj at *
          generalize l[i] = p at *
          obtain ⟨⟨kd, tx, r⟩, pk⟩ := p
          generalize (l2[i]'(by omega)).2 = k2 at *
          simp only at c0 c1 c2 c3 d0 d1 d2 d3
          generalize (⟨tx.toArray⟩ : ByteArray) = T at *
          have hTT := str_self T
          simp only at hra hrb
          have gp : decide (pk < pj) = false := decide_eq_false (by omega)
          have gq : decide (k2 < qj) = false := decide_eq_false (by omega)
          have ej := World.new_ne wr _ cj
          have fj := World.new_ne wr _ dj
          have ejl : b < wr.heap.size := World.block_lt_of_cell? wr _ cj
          have fjl : b' < wr.heap.size := World.block_lt_of_cell? wr _ dj
          clear hte hr1 hr2 h0 hj hra hrb
          have e0 := World.new_ne wr _ c0
          have e1 := World.new_ne wr _ c1
          have e2 := World.new_ne wr _ c2
          have e3 := World.new_ne wr _ c3
          have f0 := World.new_ne wr _ d0
          have f1 := World.new_ne wr _ d1
          have f2 := World.new_ne wr _ d2
          have f3 := World.new_ne wr _ d3
          go_wp2
          go_region_held3 (fun W => W.cell? ⟨b, off + i * 4, none⟩ = some (.int .i64 (kd : Int)) ∧ W.cell? ⟨b, off + i * 4 + 1, none⟩ = some (.int .i64 (pk : Int)) ∧ W.cell? ⟨b, off + i * 4 + 2, none⟩ = some (.string T) ∧ W.cell? ⟨b, off + i * 4 + 3, none⟩ = some (.int .i32 r) ∧ W.cell? ⟨b', off' + i * 4, none⟩ = some (.int .i64 (kd : Int)) ∧ W.cell? ⟨b', off' + i * 4 + 1, none⟩ = some (.int .i64 (k2 : Int)) ∧ W.cell? ⟨b', off' + i * 4 + 2, none⟩ = some (.string T) ∧ W.cell? ⟨b', off' + i * 4 + 3, none⟩ = some (.int .i32 r) ∧ W.cell? ⟨b, off + j * 4 + 1, none⟩ = some (.int .i64 (pj : Int)) ∧ W.cell? ⟨b', off' + j * 4 + 1, none⟩ = some (.int .i64 (qj : Int))) (go_keep) (fail)
          all_goals
            rename_i hS
            obtain ⟨s0, s1, s2, s3, s4, s5, s6, s7, cj2, dj2⟩ := hS
            clear s0 s1 s2 s3 s4 s5 s6 s7
            rw [World.cell?_drew] at cj2 dj2
            go_wp2
            go_quiet (fail)
            go_wp2
          all_goals
            go_roundw
            case rel => exact ⟨i + 1, by go_num, by omega, below_two hbw _ _ _ _ _ (by have := hbw.size; simp; omega) (by have := hbw.size; simp; omega) _ _⟩
            case measure => simp [intOf]; omega
      · have hla := HLA.out
        obtain ⟨m, hm⟩ : ∃ m, l.length = m + 1 := ⟨l.length - 1, by omega⟩
        have hsub : (l.length : Int) - 1 = (m : Int) := by omega
        have hml : (m : Int) < (l.length : Int) := by omega
        obtain ⟨b, off, rfl, c0, c1, c2, c3⟩ := hr1 m (by omega)
        have hlast : l[m]'(by omega) = (X.tEnd, s.size) := by
          obtain ⟨l', e⟩ := hla
          have hm2 : m = l'.length := by rw [e] at hm; simpa using hm.symm
          subst hm2
          simp only [e, List.getElem_append_right (Nat.le_refl _), Nat.sub_self, List.getElem_cons_zero]
        rw [hlast] at c0 c1
        simp only [X.tEnd, show ((0 : Nat) : Int) = 0 from rfl] at c0 c1
        have hbz := (nx hbe (show Below w5.heap.size w5 wr from hbw))
        clear hr1 hr2 hla hlast hm c2 c3
        go_wp2
        go_ret
        exact ⟨rfl, hbz⟩
end Go.Proofs.YtidpalighpdlfaaDoor
