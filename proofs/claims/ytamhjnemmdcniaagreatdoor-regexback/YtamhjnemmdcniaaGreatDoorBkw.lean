/- What RegexBack says: the walk. -/
import Derived.Test.YtamhjnemmdcniaaGreatDoorSam
import Derived.Test.YtamhjnemmdcniaaGreatDoorNsv
namespace Go.Proofs.YtamhjnemmdcniaaGreatDoor
open Go.RowKit Go.Shelf
open E (T)
attribute [local go_sem] Oper.semAt_some
namespace E
theorem parse_ok {s : List UInt8} {t : T} (h : parse s = .ok t) : ∃ l j, X.scan 0 s = .ok l ∧ alt 20 l 0 = .ok (t, j) := by
  unfold parse at h
  cases hs : X.scan 0 s with
  | error e => rw [hs] at h; cases h
  | ok l =>
    rw [hs] at h
    simp only at h
    cases ha : alt 20 l 0 with
    | error e => rw [ha] at h; cases h
    | ok p =>
      obtain ⟨u, j⟩ := p
      rw [ha] at h
      simp only at h
      split at h
      · cases h
        exact ⟨l, j, rfl, ha⟩
      · cases h
theorem parse_bounds {s : List UInt8} {t : T} (h : parse s = .ok t) (hs : s.length ≤ 300) : (pre t t).length ≤ 602 ∧ (∀ p ∈ pre t t, NodeB p.1) ∧ (text t).length ≤ 96320 ∧ wt t ≤ 12040 := by
  obtain ⟨l, j, h1, h2⟩ := parse_ok h
  have hz := X.scan_sizes 0 s l h1
  have hg := (scan_good h1 (by omega)).2
  have hf := alt_far l 20 0 t j h2
  have b1 := alt_bounds hg 20 0 t j h2
  have b2 := text_bounds hg (fun x hx => by have := hz.2 x hx; omega) 20 0 t j h2
  have b3 := wt_bounds hg 20 0 t j h2
  exact ⟨by omega, b1.2, by omega, by omega⟩
theorem sim_fst {t t' : T} (h : Sim t t') : (pre t t').map (·.1) = (pre t t).map (·.1) := by
  induction h with
  | leaf k a b s n => simp [pre, preK]
  | one k a b s n t t' h ih => simp only [pre, T.kids, preK_cons, preK_nil, List.append_nil, List.map_cons, ih]
  | two k a b s n t t' u u' h h2 ih ih2 => simp only [pre, T.kids, preK_cons, preK_nil, List.append_nil, List.map_cons, List.map_append, ih, ih2]
theorem sim_set {t t' : T} (h : Sim t t') (hi : IsP t) : ∀ p ∈ pre t t', p.1.set.length ≤ 1000000 := by
  intro p hp
  have := List.mem_map_of_mem (f := fun q : T × T => q.1) hp
  rw [sim_fst h] at this
  obtain ⟨q, hq, e⟩ := List.mem_map.1 this
  have e : q.1 = p.1 := e
  rw [← e]
  obtain ⟨_, h1 | h1 | h1⟩ := hi.2 q hq
  · omega
  · rw [h1.2.1]; simp
  · rw [h1.2.2.1]; simp
theorem sim_nb {t t' : T} (h : Sim t t') (hb : ∀ p ∈ pre t t, NodeB p.1) : ∀ p ∈ pre t' t', NodeB p.1 := by
  obtain ⟨_, _, h3⟩ := sim_like h
  intro p hp
  have := List.mem_map_of_mem (f := key) hp
  rw [h3] at this
  obtain ⟨q, hq, e⟩ := List.mem_map.1 this
  have hq := hb q hq
  simp only [key, Prod.mk.injEq] at e
  unfold NodeB at hq ⊢
  rw [← e.2.1, ← e.2.2.1, ← e.2.2.2]
  exact hq
theorem sim_size {t t' : T} (h : Sim t t') : (pre t' t').length = (pre t t).length := by
  have := congrArg List.length (sim_like h).2.2
  simpa using this
end E
/-- What Parse answers of a print. -/
theorem parse_print {t : T} (hi : E.IsP t) (h1 : (E.text t).length ≤ 96320) (h2 : E.wt t ≤ 12040) (w : World) (ht : Tabs w) :
    Calls Tryz.prog 10 #[.string ⟨(E.text t).toArray⟩] w fun e w' => Below w.heap.size w w' ∧ ((∃ (t' : T) (d : ND), E.Sim t t' ∧ e = .returned (.tuple #[d.v, .int .i64 0, .int .i64 0]) ∧ TR w' (fun _ => True) t' d.v) ∨ ∃ k : Nat, e = .returned (.tuple #[zN, .int .i64 (k : Int), .int .i64 71])) := by
  have hW := E.w_of t hi.2
  have e : bts ⟨(E.text t).toArray⟩ = E.text t := rfl
  have hp := parse_big ⟨(E.text t).toArray⟩ (by rw [← bts_len, e]; omega) (fun l hl => by
    rw [e] at hl
    have k1 := E.text_toks hW l hl
    have k2 := X.scan_sizes 0 _ l hl
    exact ⟨by omega, fun x hx => by have := k2.2 x hx; omega⟩) w ht
  rw [e] at hp
  refine hp.mono fun r w' ha => ?_
  rcases E.parse_text hW with ⟨t', hq, hs⟩ | ⟨k, hq⟩
  · rw [hq] at ha
    obtain ⟨hb, d, e1, htr⟩ := ha.ok
    exact ⟨hb, .inl ⟨t', d, hs, e1, htr⟩⟩
  · rw [hq] at ha
    obtain ⟨hb, e1⟩ := ha.err
    exact ⟨hb, .inr ⟨k, e1⟩⟩
set_option maxRecDepth 100000 in
set_option maxHeartbeats 1000000 in
theorem back_any (s : ByteArray) (w : World) (ht : Tabs w) (hd : Deb w) : Calls Tryz.prog 6 #[.string s] w fun e w' => e = .returned (.bool true) ∧ Below w.heap.size w w' := by
  have hk := known_any w ht hd
  by_cases h300 : 300 < s.size
  · have g1 : decide ((300 : Int) < (s.size : Int)) = true := decide_eq_true (by omega)
    go_enter Tryz.func6, Tryz.ntmps6
    go_wp2_with fail
    refine hk.mono ?_
    rintro e w1 ⟨rfl, hb1⟩
    clear hk
    go_wp2
    go_ret
    exact ⟨rfl, hb1⟩
  have g1 : decide ((300 : Int) < (s.size : Int)) = false := decide_eq_false (by omega)
  have hs : s.size ≤ 300 := by omega
  go_enter Tryz.func6, Tryz.ntmps6
  go_wp2_with fail
  refine hk.mono ?_
  rintro e w1 ⟨rfl, hb1⟩
  clear hk
  have hpa := parse_any s (by omega) w1 (ht.later hb1)
  go_wp2_with fail
  refine hpa.mono ?_
  clear hpa
  intro e w2 ha
  cases hr : E.parse (bts s) with
  | error ck =>
    obtain ⟨c, k⟩ := ck
    rw [hr] at ha
    have hc : ((c : Int) != 0) = true := by
      obtain ⟨_, ⟨_, _, h1, _⟩ | ⟨_, _, h1, _, h2⟩⟩ := ha
      · cases h1
      · cases h1; exact h2
    obtain ⟨hb2, rfl⟩ := ha.err
    have hkl : k ≤ s.size := by have := E.parse_at hr; rw [bts_len] at this; exact this
    have g2 : decide (0 ≤ (k : Int)) = true := decide_eq_true (by omega)
    have g3 : decide ((k : Int) ≤ (s.size : Int)) = true := decide_eq_true (by omega)
    have bX := nx hb1 (nx hb2 (al1 w2 (.cells #[.int .i64 0, .int .i64 0, .slice none 0 0, .string ⟨#[]⟩, .slice none 0 0] 26)))
    clear ha hr
    unfold zN
    go_wp2
    go_ret
    exact ⟨rfl, bX⟩
  | ok t =>
    rw [hr] at ha
    obtain ⟨hb2, d, rfl, htr⟩ := ha.ok
    obtain ⟨f1, f2, f3, f4⟩ := E.parse_bounds hr (by rw [bts_len]; exact hs)
    clear ha hr
    have HT := hide htr
    clear htr
    unfold ND.v
    have a1 := al1 w2 (.cells #[.int .i64 d.k, .int .i64 d.a, .slice d.sp d.sl d.sc, .string d.n, .slice d.kp d.kl d.kc] 26)
    have n1 := heap_alloc_new w2 (.cells #[.int .i64 d.k, .int .i64 d.a, .slice d.sp d.sl d.sc, .string d.n, .slice d.kp d.kl d.kc] 26)
    obtain ⟨X1, hX1⟩ : ∃ X1, w2.alloc (.cells #[.int .i64 d.k, .int .i64 d.a, .slice d.sp d.sl d.sc, .string d.n, .slice d.kp d.kl d.kc] 26) = X1 := ⟨_, rfl⟩
    rw [hX1] at a1 n1
    have bX := nx hb1 (nx hb2 a1)
    have HT1 := hide (TR.later (fun k hk => a1.block k hk) _ HT.out)
    have hpi := is_any7 t d X1 (ht.later bX) HT1.out (by omega) f2
    unfold ND.v at hpi
    obtain ⟨y0, y1, y2, y3, y4⟩ := cells_five n1
    have HN1 := hide n1
    clear HT a1 hb2 n1
    go_wp2_with fail
    refine hpi.mono ?_
    clear hpi hX1
    rintro e X2 ⟨⟨bb, rfl, hbb⟩, hb2⟩
    have bX2 := nx bX hb2
    have n2 := (hb2.block w2.heap.size (Array.getElem?_eq_some_iff.1 HN1.out).1).trans HN1.out
    have HT2 := hide (TR.later (fun k hk => hb2.block k hk) _ HT1.out)
    have hpr := print_any7 t d X2 (ht.later bX2) (hd.later bX2) HT2.out (by omega) f2 (fun _ => by omega)
    unfold ND.v at hpr
    obtain ⟨z0, z1, z2, z3, z4⟩ := cells_five n2
    have HN2 := hide n2
    clear HT1 HN1 n2 hb2 bX y0 y1 y2 y3 y4
    cases bb with
    | false =>
      have hno : ¬ E.IsP t := fun h => by have := hbb.2 h; cases this
      have e0 : E.prn t = [] := by unfold E.prn; rw [if_neg hno]
      rw [e0] at hpr
      clear hbb
      go_wp2_with fail
      refine hpr.mono ?_
      rintro e X3 ⟨rfl, hb3⟩
      have bX3 := nx bX2 hb3
      clear hpr
      go_wp2
      go_ret
      exact ⟨rfl, bX3⟩
    | true =>
      have hyes : E.IsP t := hbb.1 rfl
      have e0 : E.prn t = E.text t := by unfold E.prn; rw [if_pos hyes]
      rw [e0] at hpr
      clear hbb
      go_wp2_with fail
      refine hpr.mono ?_
      rintro e X3 ⟨rfl, hb3⟩
      have bX3 := nx bX2 hb3
      have n3 := (hb3.block w2.heap.size (Array.getElem?_eq_some_iff.1 HN2.out).1).trans HN2.out
      have HT3 := hide (TR.later (fun k hk => hb3.block k hk) _ HT2.out)
      have hpp := parse_print hyes f3 f4 X3 (ht.later bX3)
      have HPN : Hid (∀ t', E.Sim t t' → E.prn t' = E.text t) := hide (fun t' hs => (E.sim_prn hs hyes).trans e0)
      have HTX : Hid (∀ t', E.Sim t t' → (E.text t').length ≤ 96320) := hide (fun t' hs => by rw [E.sim_text hs]; exact f3)
      generalize hx : E.text t = tx at *
      obtain ⟨T9, hT9⟩ : ∃ T9 : ByteArray, (⟨tx.toArray⟩ : ByteArray) = T9 := ⟨_, rfl⟩
      rw [hT9] at hpp ⊢
      clear hpr HT2 HN2 hb3 z0 z1 z2 z3 z4
      go_wp2_with fail
      refine hpp.mono ?_
      clear hpp
      rintro e X4 ⟨hb4, ⟨t', d', hs', rfl, htr'⟩ | ⟨k, rfl⟩⟩
      · have bX4 := nx bX3 hb4
        have n4 := (hb4.block w2.heap.size (Array.getElem?_eq_some_iff.1 n3).1).trans n3
        have HT4 := hide (TR.later (fun k hk => hb4.block k hk) _ HT3.out)
        have a5 := al1 X4 (.cells #[.int .i64 d'.k, .int .i64 d'.a, .slice d'.sp d'.sl d'.sc, .string d'.n, .slice d'.kp d'.kl d'.kc] 26)
        have m5 := heap_alloc_new X4 (.cells #[.int .i64 d'.k, .int .i64 d'.a, .slice d'.sp d'.sl d'.sc, .string d'.n, .slice d'.kp d'.kl d'.kc] 26)
        obtain ⟨X5, hX5⟩ : ∃ X5, X4.alloc (.cells #[.int .i64 d'.k, .int .i64 d'.a, .slice d'.sp d'.sl d'.sc, .string d'.n, .slice d'.kp d'.kl d'.kc] 26) = X5 := ⟨_, rfl⟩
        rw [hX5] at a5 m5
        have bX5 := nx bX4 a5
        have n5 := (a5.block w2.heap.size (Array.getElem?_eq_some_iff.1 n4).1).trans n4
        have HT5 := hide (TR.later (fun k hk => a5.block k hk) _ HT4.out)
        have HU5 := hide (TR.later (fun k hk => a5.block k hk) _ htr')
        obtain ⟨q1, q2, _⟩ := E.sim_like hs'
        have hsm := same_any7 t t' d d' X5 HT5.out HU5.out (by omega) (E.sim_set hs' hyes)
        have hal : AllL (E.pre t t') := q1
        unfold ND.v at hsm ⊢
        obtain ⟨z0, z1, z2, z3, z4⟩ := cells_five n5
        obtain ⟨y0, y1, y2, y3, y4⟩ := cells_five m5
        have HN5 := hide m5
        clear n3 n4 n5 HT3 HT4 htr' hb4 a5 m5 q1
        go_wp2_with fail
        refine hsm.mono ?_
        clear hsm hX5
        rintro e X6 ⟨⟨bb, rfl, hbb⟩, hb6⟩
        obtain rfl : bb = true := hbb.2 hal
        clear hbb hal
        have bX6 := nx bX5 hb6
        have m6 := (hb6.block X4.heap.size (Array.getElem?_eq_some_iff.1 HN5.out).1).trans HN5.out
        have HU6 := hide (TR.later (fun k hk => hb6.block k hk) _ HU5.out)
        have hpr := print_any7 t' d' X6 (ht.later bX6) (hd.later bX6) HU6.out (by rw [E.sim_size hs']; omega) (E.sim_nb hs' f2) (fun _ => by have := HTX.out t' hs'; omega)
        rw [HPN.out t' hs', hT9] at hpr
        unfold ND.v at hpr
        obtain ⟨o0, o1, o2, o3, o4⟩ := cells_five m6
        clear z0 z1 z2 z3 z4 y0 y1 y2 y3 y4 HN5 HT5 HU5 hb6
        go_wp2_with fail
        refine hpr.mono ?_
        clear hpr
        rintro e X7 ⟨rfl, hb7⟩
        have bX7 := nx bX6 hb7
        go_wp2
        go_ret
        exact ⟨rfl, bX7⟩
      · have bX4 := nx bX3 (nx hb4 (al1 X4 (.cells #[.int .i64 0, .int .i64 0, .slice none 0 0, .string ⟨#[]⟩, .slice none 0 0] 26)))
        unfold zN
        go_wp2
        go_ret
        exact ⟨rfl, bX4⟩
end Go.Proofs.YtamhjnemmdcniaaGreatDoor
