/- TagRefuses. -/
import Derived.Test.YtdbidfphpnkkhaaDoorTgl
namespace Go.Proofs.YtdbidfphpnkkhaaDoor
open Go.RowKit Go.Shelf
namespace G
/-- A language and so many variants. -/
def lg (l : List UInt8) : Nat → List UInt8
  | 0 => l
  | m + 1 => lg l m ++ [45] ++ pt m.toUInt8 97 8
theorem lg_len (l : List UInt8) : ∀ m, (lg l m).length = l.length + 9 * m
  | 0 => rfl
  | m + 1 => by simp [lg, lg_len l m, pt_len]; omega
def bad (l : List UInt8) : List (List UInt8) := [[], l ++ [45], [45] ++ l, l ++ [45, 45, 85, 83], l ++ [45, 97, 98, 99, 100, 101, 102, 103, 104, 105], l ++ [32, 85, 83], l ++ [45, 97], [97, 98, 99, 100]]
theorem one_no {s : List UInt8} (hn : noSep s) (h : s.length ≤ 1 ∨ 5 ≤ s.length) (hl : s.length ≤ 40) : canon s = none := by
  unfold canon
  rw [if_neg (by omega), if_neg (fun e => by have := congrArg List.length e; rw [List.length_map] at this; simp [rootB] at this; omega), cut_nosep hn]
  have : kind 0 s = 0 := by
    unfold kind lang run
    rw [if_pos rfl]
    rcases h with h | h
    · rw [decide_eq_false (show ¬ 2 ≤ s.length by omega)]; simp
    · rw [decide_eq_false (show ¬ s.length ≤ 3 by omega)]; simp
  simp [walk, this]
theorem bad_no {l : List UInt8} (hl : Sm l) (l2 : l.length = 2) : ∀ s ∈ bad l, canon s = none ∧ s.length ≤ 12 := by
  have k1 := kind_lang hl (by omega) (by omega)
  have two : ∀ r : List UInt8, r.length ≤ 20 → kind 1 (cut r).head! = 0 → canon (l ++ 45 :: r) = none := fun r hr hk => by
    have hc := cut_at (r := r) hl.nosep (c := 45) rfl
    obtain ⟨x, xs, hx⟩ : ∃ x xs, cut r = x :: xs := by
      cases h : cut r with
      | nil => exact absurd h (cut_ne r)
      | cons x xs => exact ⟨x, xs, rfl⟩
    rw [hx] at hc hk
    have hk2 : kind 1 x = 0 := hk
    rw [canon_of hc (by simp) (by simp; omega)]
    simp [walk, k1, hk2]
  intro s hs
  simp only [bad, List.mem_cons, List.not_mem_nil, or_false] at hs
  rcases hs with rfl | rfl | rfl | rfl | rfl | rfl | rfl | rfl
  · exact ⟨by decide +kernel, by simp⟩
  · exact ⟨two [] (by simp) (by decide +kernel), by simp; omega⟩
  · refine ⟨?_, by simp; omega⟩
    have hc : cut ([45] ++ l) = [[], l] := by
      have := cut_at (l := []) (r := l) (fun c hc => by simp at hc) (c := 45) rfl
      rw [List.nil_append, cut_nosep hl.nosep] at this
      exact this
    rw [canon_of hc (by simp) (by simp; omega)]
    have : kind 0 [] = 0 := by decide +kernel
    simp [walk, this]
  · exact ⟨two [45, 85, 83] (by simp) (by decide +kernel), by simp; omega⟩
  · exact ⟨two [97, 98, 99, 100, 101, 102, 103, 104, 105] (by simp) (by decide +kernel), by simp; omega⟩
  · refine ⟨one_no ?_ (.inr (by simp; omega)) (by simp; omega), by simp; omega⟩
    intro c hc
    rcases List.mem_append.1 hc with h | h
    · exact hl.nosep c h
    · simp at h
      rcases h with rfl | rfl | rfl <;> rfl
  · exact ⟨two [97] (by simp) (by decide +kernel), by simp; omega⟩
  · exact ⟨by decide +kernel, by simp⟩
theorem lg_ok {l : List UInt8} (hl : Sm l) (l2 : l.length = 2) {m : Nat} (hm : m ≤ 4) : canon (lg l m) = some (lg l m) := by
  have k1 := kind_lang hl (by omega) (by omega)
  have kv : ∀ k i, k ≠ 0 → kind k (pt i 97 8) = 4 ∧ form 4 (pt i 97 8) = pt i 97 8 := fun k i hk => kind_variant k hk (pt_lo i 8) (by rw [pt_len]; omega) (by rw [pt_len]; omega)
  have nl : ∀ i, ¬ pt i 97 8 = l := fun i => ne_len (by rw [pt_len]; omega)
  have d10 : ¬ pt 1 97 8 = pt 0 97 8 := by decide +kernel
  have d20 : ¬ pt 2 97 8 = pt 0 97 8 := by decide +kernel
  have d21 : ¬ pt 2 97 8 = pt 1 97 8 := by decide +kernel
  have d30 : ¬ pt 3 97 8 = pt 0 97 8 := by decide +kernel
  have d31 : ¬ pt 3 97 8 = pt 1 97 8 := by decide +kernel
  have d32 : ¬ pt 3 97 8 = pt 2 97 8 := by decide +kernel
  have hj : lg l m = join ([l, pt 0 97 8, pt 1 97 8, pt 2 97 8, pt 3 97 8].take (m + 1)) := by
    match m, hm with
    | 0, _ => rfl
    | 1, _ => simp [lg, join]
    | 2, _ => simp [lg, join]
    | 3, _ => simp [lg, join]
    | 4, _ => simp [lg, join]
  have hn : Cn ([l, pt 0 97 8, pt 1 97 8, pt 2 97 8, pt 3 97 8].take (m + 1)) := by
    refine ⟨by simp, ?_⟩
    have p1 := kv 1 0 (by decide)
    have q1 := kv 4 1 (by decide)
    have q2 := kv 4 2 (by decide)
    have q3 := kv 4 3 (by decide)
    have n0 := nl 0
    have n1 := nl 1
    have n2 := nl 2
    have n3 := nl 3
    clear kv nl hj
    generalize pt 0 97 8 = v0 at *
    generalize pt 1 97 8 = v1 at *
    generalize pt 2 97 8 = v2 at *
    generalize pt 3 97 8 = v3 at *
    match m, hm with
    | 0, _ => simp [walk, k1]
    | 1, _ => simp [walk, k1, p1, n0]
    | 2, _ => simp [walk, k1, p1, n0, q1, n1, d10]
    | 3, _ => simp [walk, k1, p1, n0, q1, n1, d10, q2, n2, d20, d21]
    | 4, _ => simp [walk, k1, p1, n0, q1, n1, d10, q2, n2, d20, d21, q3, n3, d30, d31, d32]
  have := lg_len l m
  rw [hj] at this ⊢
  exact hn.canon (by omega)
end G
theorem arr8 {W : World} {b : Nat} {cs : Array Value} (h : W.heap[b]? = some (.cells cs 34)) {k : Nat} {v : Value} (hk : cs[k]? = some v) : W.cell? ⟨b, k, none⟩ = some v := by simp [World.cell?, h, hk]
set_option maxRecDepth 100000 in
set_option maxHeartbeats 1000000 in
theorem refuses_any (a0 c0 n0 : UInt8) (w : World) (hA : AF w) : Calls Tryd.prog 6 #[U8 a0, U8 c0, U8 n0] w fun e W' => e = .returned (.bool true) ∧ Below w.heap.size w W' := by
  have hk := known_any w hA
  have HA := hide hA
  clear hA
  have h18 := fun W => part_any a0 97 2 (by decide) (by omega) W
  have hSm : G.Sm (G.pt a0 97 2) := G.pt_lo _ _
  have hl2 := G.pt_len a0 97 2
  generalize G.pt a0 97 2 = l at *
  have HBAD := hide (G.bad_no hSm hl2)
  have HOK := hide (fun m hm => G.lg_ok hSm hl2 (m := m) hm)
  have HLL := hide (fun m => G.lg_len l m)
  have ha := a0.toNat_lt
  have hc := c0.toNat_lt
  have hn := n0.toNat_lt
  obtain ⟨m, hm⟩ : ∃ m : Nat, m = n0.toNat % 8 := ⟨_, rfl⟩
  obtain ⟨k, hk8⟩ : ∃ k : Nat, k = c0.toNat % 8 := ⟨_, rfl⟩
  have x1 : (n0.toNat : Int) % 8 = (m : Int) := by omega
  have x1t : (n0.toNat : Int).tmod 8 = (m : Int) := by rw [Int.tmod_eq_emod_of_nonneg (by omega)]; omega
  have x2 : (c0.toNat : Int) % 8 = (k : Int) := by omega
  have x2t : (c0.toNat : Int).tmod 8 = (k : Int) := by rw [Int.tmod_eq_emod_of_nonneg (by omega)]; omega
  have m7 : m ≤ 7 := by omega
  have k7 : k < 8 := by omega
  have e1 := add_tx l [45]
  have e2 := add_tx [45] l
  have e3 := add_tx l [45, 45, 85, 83]
  have e4 := add_tx l [45, 97, 98, 99, 100, 101, 102, 103, 104, 105]
  have e5 := add_tx l [32, 85, 83]
  have e6 := add_tx l [45, 97]
  have zl := sz_tx l
  have l2' : l.length ≤ 2 := by omega
  have HL2 := hide hl2
  clear hSm hl2 hm hk8
  simp only [U8, tx, show (((97 : UInt8).toNat : Nat) : Int) = 97 from rfl, show ((2 : Nat) : Int) = 2 from rfl] at h18
  unfold U8
  go_enter Tryd.func6, Tryd.ntmps6
  go_wp2_with fail
  refine hk.mono ?_
  rintro e w1 ⟨rfl, b1⟩
  have A1 := hide (HA.out.later b1)
  have B1 := hide b1
  clear HA hk b1
  go_wp2_with fail
  with_reducible refine (h18 w1).mono ?_
  rintro e w2 ⟨rfl, b2⟩
  have A2 := hide (A1.out.later b2)
  have B2 := hide (nx B1.out b2)
  clear A1 B1 b2 h18
  obtain ⟨bk, hbk, hbk2⟩ : ∃ bk : List UInt8, (#[.string ⟨#[]⟩, .string ⟨(l ++ [45]).toArray⟩, .string ⟨(45 :: l).toArray⟩, .string ⟨(l ++ [45, 45, 85, 83]).toArray⟩, .string ⟨(l ++ [45, 97, 98, 99, 100, 101, 102, 103, 104, 105]).toArray⟩, .string ⟨(l ++ [32, 85, 83]).toArray⟩, .string ⟨(l ++ [45, 97]).toArray⟩, .string ⟨#[97, 98, 99, 100]⟩] : Array Value)[k]? = some (.string ⟨bk.toArray⟩) ∧ bk ∈ G.bad l := by
    match k, k7 with
    | 0, _ => exact ⟨_, rfl, by simp [G.bad]⟩
    | 1, _ => exact ⟨_, rfl, by simp [G.bad]⟩
    | 2, _ => exact ⟨_, rfl, by simp [G.bad]⟩
    | 3, _ => exact ⟨_, rfl, by simp [G.bad]⟩
    | 4, _ => exact ⟨_, rfl, by simp [G.bad]⟩
    | 5, _ => exact ⟨_, rfl, by simp [G.bad]⟩
    | 6, _ => exact ⟨_, rfl, by simp [G.bad]⟩
    | 7, _ => exact ⟨[97, 98, 99, 100], rfl, by simp [G.bad]⟩
    | k + 8, h => omega
  obtain ⟨hno, hbl⟩ := HBAD.out bk hbk2
  have n3 := heap_alloc_new w2 (.cells #[.string ⟨#[]⟩, .string ⟨(l ++ [45]).toArray⟩, .string ⟨(45 :: l).toArray⟩, .string ⟨(l ++ [45, 45, 85, 83]).toArray⟩, .string ⟨(l ++ [45, 97, 98, 99, 100, 101, 102, 103, 104, 105]).toArray⟩, .string ⟨(l ++ [32, 85, 83]).toArray⟩, .string ⟨(l ++ [45, 97]).toArray⟩, .string ⟨#[97, 98, 99, 100]⟩] 34)
  have a3 := al1 w2 (.cells #[.string ⟨#[]⟩, .string ⟨(l ++ [45]).toArray⟩, .string ⟨(45 :: l).toArray⟩, .string ⟨(l ++ [45, 45, 85, 83]).toArray⟩, .string ⟨(l ++ [45, 97, 98, 99, 100, 101, 102, 103, 104, 105]).toArray⟩, .string ⟨(l ++ [32, 85, 83]).toArray⟩, .string ⟨(l ++ [45, 97]).toArray⟩, .string ⟨#[97, 98, 99, 100]⟩] 34)
  have HAR : Hid (∀ W : World, Below w2.heap.size w2 W → W.heap[w2.heap.size]? = (w2.alloc (.cells #[.string ⟨#[]⟩, .string ⟨(l ++ [45]).toArray⟩, .string ⟨(45 :: l).toArray⟩, .string ⟨(l ++ [45, 45, 85, 83]).toArray⟩, .string ⟨(l ++ [45, 97, 98, 99, 100, 101, 102, 103, 104, 105]).toArray⟩, .string ⟨(l ++ [32, 85, 83]).toArray⟩, .string ⟨(l ++ [45, 97]).toArray⟩, .string ⟨#[97, 98, 99, 100]⟩] 34)).heap[w2.heap.size]? → W.cell? ⟨w2.heap.size, k, none⟩ = some (.string ⟨bk.toArray⟩)) := hide (fun W _ h => arr8 (h.trans n3) hbk)
  have k9 := fun W (hW : AF W) => canon_no hno (by omega) W hW
  have k11 := fun W (hW : AF W) => is_any bk (by omega) W hW
  rw [show G.isT bk = false by
    cases h : G.isT bk with
    | false => rfl
    | true => rw [G.isT_iff.1 h] at hno; cases hno] at k11
  have hm9 := HLL.out m
  have hlgok : ∀ W, AF W → Calls Tryd.prog 9 #[.string ⟨(G.lg l m).toArray⟩] W fun e w' => (∃ (q : List UInt8) (f : Int), e = .returned (.tuple #[.string ⟨q.toArray⟩, .int .i64 f]) ∧ (f == 0) = decide (m ≤ 4)) ∧ Below W.heap.size W w' := fun W hW => by
    by_cases h4 : m ≤ 4
    · refine (canon_ok (HOK.out m h4) W hW).mono ?_
      rintro e w' ⟨rfl, hb⟩
      exact ⟨⟨_, _, rfl, by rw [decide_eq_true h4]; rfl⟩, hb⟩
    · refine (canon_no (s := G.lg l m) (by unfold G.canon; rw [if_pos (by rw [HLL.out, HL2.out]; omega)]) (by rw [HLL.out, HL2.out]; omega) W hW).mono ?_
      rintro e w' ⟨rfl, hb⟩
      exact ⟨⟨[], _, rfl, by rw [decide_eq_false h4]; rfl⟩, hb⟩
  have HLG := hide hlgok
  have hgl : (G.lg l m).length = 2 + 9 * m := by rw [HLL.out, HL2.out]
  have HGL := hide hgl
  clear hlgok hm9 hgl hbk hbk2 hno n3 HBAD HOK
  unfold tx at k9 k11
  go_wp2
  obtain ⟨W3, hW3⟩ : ∃ W3, w2.alloc (.cells #[.string ⟨#[]⟩, .string ⟨(l ++ [45]).toArray⟩, .string ⟨(45 :: l).toArray⟩, .string ⟨(l ++ [45, 45, 85, 83]).toArray⟩, .string ⟨(l ++ [45, 97, 98, 99, 100, 101, 102, 103, 104, 105]).toArray⟩, .string ⟨(l ++ [32, 85, 83]).toArray⟩, .string ⟨(l ++ [45, 97]).toArray⟩, .string ⟨#[97, 98, 99, 100]⟩] 34) = W3 := ⟨_, rfl⟩
  rw [hW3] at a3 HAR ⊢
  have z3 : w2.heap.size < W3.heap.size := by rw [← hW3]; simp
  clear hW3
  have A3 := hide (A2.out.later a3)
  have B3 := hide (nx B2.out a3)
  have HB3 := hide a3
  clear A2 B2 a3
  go_loopw [9, 10] (fun v u wr => ∃ i : Nat, u = .int .i64 (i : Int) ∧ i ≤ m ∧ v = .string ⟨(G.lg l i).toArray⟩ ∧ Hid (Below W3.heap.size W3 wr)) (fun _ u _ => m - (intOf u).toNat)
  case atStart => exact ⟨0, rfl, by omega, rfl, hide (Below.refl _ _)⟩
  case round =>
    obtain ⟨i, rfl, hi, rfl, HB⟩ := hrel
    by_cases hlt : i < m
    · have hu : (i.toUInt8).toNat = i := by simp; omega
      have h18 := part_any i.toUInt8 97 8 (by decide) (by omega) wr
      simp only [U8, tx, hu, show (((97 : UInt8).toNat : Nat) : Int) = 97 from rfl, show ((8 : Nat) : Int) = 8 from rfl] at h18
      have ew : IntKind.u8.wrap (i : Int) = (i : Int) := by unfold IntKind.wrap; simp [IntKind.bits, IntKind.signed]; omega
      have f1 := add_tx (G.lg l i) [45]
      have f2 := add_tx (G.lg l i ++ [45]) (G.pt i.toUInt8 97 8)
      have HE : Hid (G.lg l (i + 1) = G.lg l i ++ [45] ++ G.pt i.toUInt8 97 8) := hide rfl
      rw [← HE.out] at f2
      have g1 : (G.lg l i).length ≤ 80 := by rw [HLL.out, HL2.out]; omega
      have g2 : (G.lg l i ++ [45]).length ≤ 81 := by rw [List.length_append, HLL.out, HL2.out]; simp; omega
      have g3 : (G.pt i.toUInt8 97 8).length ≤ 8 := by rw [G.pt_len]; omega
      have z1 := sz_tx (G.lg l i)
      have z2 := sz_tx (G.lg l i ++ [45])
      have z4 := sz_tx (G.pt i.toUInt8 97 8)
      generalize G.pt i.toUInt8 97 8 = pp at *
      generalize G.lg l i ++ [45] = q1 at *
      generalize hq2 : G.lg l (i + 1) = q2 at *
      have HQ2 := hide hq2
      generalize G.lg l i = q0 at *
      clear HE hq2 hu e1 e2 e3 e4 e5 e6
      go_wp2_with fail
      with_reducible refine h18.mono ?_
      rintro e w4 ⟨rfl, b4⟩
      go_wp2
      go_roundw
      case rel => exact ⟨i + 1, by go_num, by omega, by rw [HQ2.out], hide (nx HB.out b4)⟩
      case measure => simp [intOf]; omega
    · obtain rfl : i = m := by omega
      have hA4 := A3.out.later HB.out
      have B4 := hide (nx B3.out HB.out)
      have hcell := HAR.out wr (nx HB3.out HB.out) (HB.out.block _ z3)
      have hz4 : w2.heap.size < wr.heap.size := Nat.lt_of_lt_of_le z3 HB.out.size
      have HC2 := hide (fun (W : World) (h : Below wr.heap.size wr W) => cell_later h hcell)
      have zz := sz_tx (G.lg l i)
      clear e1 e2 e3 e4 e5 e6 HAR
      go_wp2_with fail
      with_reducible refine (k9 wr hA4).mono ?_
      rintro e w5 ⟨rfl, b5⟩
      have A5 := hide (hA4.later b5)
      have B5 := hide (nx B4.out b5)
      go_wp2_with fail
      with_reducible refine (HLG.out w5 A5.out).mono ?_
      rintro e w6 ⟨⟨q, f, rfl, hf⟩, b6⟩
      have A6 := hide (A5.out.later b6)
      have B6 := hide (nx B5.out b6)
      have hcell6 := HC2.out w6 (nx b5 b6)
      clear hcell b5 b6 A5 B5 B4 hA4
      have hgl := HGL.out
      by_cases h4 : i ≤ 4
      · rw [decide_eq_true h4] at hf
        have h40 : decide (((G.lg l i).length : Int) ≤ 40) = true := decide_eq_true (by omega)
        have h40' : (G.lg l i).length ≤ 40 := by omega
        clear hgl
        go_wp2_with fail
        with_reducible refine (k11 w6 A6.out).mono ?_
        rintro e w7 ⟨rfl, b7⟩
        go_wp2
        go_ret
        exact ⟨rfl, nx B6.out b7⟩
      · rw [decide_eq_false h4] at hf
        have h40 : decide (((G.lg l i).length : Int) ≤ 40) = false := decide_eq_false (by omega)
        have h40' : 40 < (G.lg l i).length := by omega
        have h81 : (G.lg l i).length ≤ 81 := by omega
        clear hgl
        go_wp2_with fail
        with_reducible refine (k11 w6 A6.out).mono ?_
        rintro e w7 ⟨rfl, b7⟩
        go_wp2
        go_ret
        exact ⟨rfl, nx B6.out b7⟩
end Go.Proofs.YtdbidfphpnkkhaaDoor
