/- part of the law folder; tags that are built. -/
import Derived.Test.YtdbidfphpnkkhaaDoorTgk
namespace Go.Proofs.YtdbidfphpnkkhaaDoor
open Go.RowKit Go.Shelf
namespace G
/-- So many letters, from one on. -/
def pt (n f : UInt8) (k : Nat) : List UInt8 := (List.range k).map fun i => f + (n + i.toUInt8) % 26
theorem pt_len (n f : UInt8) (k : Nat) : (pt n f k).length = k := by simp [pt]
theorem pt_succ (n f : UInt8) (k : Nat) : pt n f (k + 1) = pt n f k ++ [f + (n + k.toUInt8) % 26] := by simp [pt, List.range_succ]
theorem mod26 (c : UInt8) : (c % 26).toNat < 26 := by
  have := all_u8 (fun c => decide ((c % 26).toNat < 26)) (by decide +kernel) c
  simpa using this
theorem pt_lo (n : UInt8) (k : Nat) : ∀ c ∈ pt n 97 k, isLo c = true := by
  intro c hc
  obtain ⟨i, _, rfl⟩ := List.mem_map.1 hc
  have := mod26 (n + i.toUInt8)
  revert this
  generalize (n + i.toUInt8) % 26 = d
  intro h
  have := all_u8 (fun d => !(decide (d.toNat < 26)) || isLo (97 + d)) (by decide +kernel) d
  simpa [h] using this
theorem pt_up (n : UInt8) (k : Nat) : ∀ c ∈ pt n 65 k, isUp c = true := by
  intro c hc
  obtain ⟨i, _, rfl⟩ := List.mem_map.1 hc
  have := mod26 (n + i.toUInt8)
  revert this
  generalize (n + i.toUInt8) % 26 = d
  intro h
  have := all_u8 (fun d => !(decide (d.toNat < 26)) || isUp (65 + d)) (by decide +kernel) d
  simpa [h] using this
theorem lo_isLo {c : UInt8} (h : isLo c = true) : lo c = c ∧ isL c = true ∧ isD c = false ∧ isUp c = false := by
  have := all_u8 (fun c => !(isLo c) || (lo c == c && isL c && !(isD c) && !(isUp c))) (by decide +kernel) c
  simp [h] at this
  exact ⟨this.1.1.1, this.1.1.2, this.1.2, this.2⟩
theorem up_isUp {c : UInt8} (h : isUp c = true) : up (lo c) = c ∧ isL c = true ∧ isD c = false ∧ isLo c = false := by
  have := all_u8 (fun c => !(isUp c) || (up (lo c) == c && isL c && !(isD c) && !(isLo c))) (by decide +kernel) c
  simp [h] at this
  exact ⟨this.1.1.1, this.1.1.2, this.1.2, this.2⟩
/-- Letters, all small; all capitals. -/
def Sm (l : List UInt8) : Prop := ∀ c ∈ l, isLo c = true
def Cp (l : List UInt8) : Prop := ∀ c ∈ l, isUp c = true
theorem Sm.lo {l : List UInt8} (h : Sm l) : l.map lo = l := by
  conv => rhs; rw [← List.map_id l]
  exact List.map_congr_left fun c hc => (lo_isLo (h c hc)).1
theorem Sm.all {l : List UInt8} (h : Sm l) : l.all isL = true := List.all_eq_true.2 fun c hc => (lo_isLo (h c hc)).2.1
theorem Cp.all {l : List UInt8} (h : Cp l) : l.all isL = true := List.all_eq_true.2 fun c hc => (up_isUp (h c hc)).2.1
theorem allA {l : List UInt8} (h : l.all isL = true) : l.all isA = true := by
  rw [List.all_eq_true] at h ⊢
  intro c hc
  simp [isA, h c hc]
theorem Cp.up {l : List UInt8} (h : Cp l) : (l.map lo).map up = l := by
  rw [List.map_map]
  conv => rhs; rw [← List.map_id l]
  exact List.map_congr_left fun c hc => (up_isUp (h c hc)).1
/-- Two or three small letters ahead are a language. -/
theorem kind_lang {l : List UInt8} (h : Sm l) (h2 : 2 ≤ l.length) (h3 : l.length ≤ 3) : kind 0 l = 1 ∧ form 1 l = l := by
  refine ⟨?_, ?_⟩
  · unfold kind lang run
    rw [if_pos rfl, decide_eq_true h2, decide_eq_true h3, h.all]
    rfl
  · unfold form
    rw [if_neg (by decide), if_neg (by decide), h.lo]
theorem kind_script {a : UInt8} {l : List UInt8} (ha : isUp a = true) (h : Sm l) (h3 : l.length = 3) : kind 1 (a :: l) = 2 ∧ form 2 (a :: l) = a :: l := by
  have hal : (a :: l).all isL = true := by rw [List.all_cons, (up_isUp ha).2.1, h.all]; rfl
  refine ⟨?_, ?_⟩
  · unfold kind script run
    rw [if_neg (by decide), if_pos ⟨by decide, by rw [List.length_cons, h3, hal]; rfl⟩]
  · unfold form
    rw [if_pos rfl, List.map_cons, List.take_succ_cons, List.take_zero, List.drop_succ_cons, List.drop_zero, h.lo]
    simp [(up_isUp ha).1]
theorem kind_region {l : List UInt8} (k : Nat) (hk : k = 1 ∨ k = 2) (h : Cp l) (h2 : l.length = 2) : kind k l = 3 ∧ form 3 l = l := by
  refine ⟨?_, ?_⟩
  · unfold kind script region run
    rw [if_neg (by omega), if_neg (by rw [h2]; simp), if_pos ⟨by omega, by rw [h2, h.all]; rfl⟩]
  · unfold form
    rw [if_neg (by decide), if_pos rfl, h.up]
theorem kind_variant {l : List UInt8} (k : Nat) (hk : k ≠ 0) (h : Sm l) (h5 : 5 ≤ l.length) (h8 : l.length ≤ 8) : kind k l = 4 ∧ form 4 l = l := by
  refine ⟨?_, ?_⟩
  · unfold kind script region variant run
    rw [if_neg hk, if_neg (by rw [decide_eq_false (show ¬ l.length ≤ 4 by omega)]; simp), if_neg (by rw [decide_eq_false (show ¬ l.length ≤ 2 by omega), decide_eq_false (show ¬ l.length ≤ 3 by omega)]; simp), decide_eq_true h5, decide_eq_true h8, allA h.all]
    rfl
  · unfold form
    rw [if_neg (by decide), if_neg (by decide), h.lo]
theorem kind_four {a : UInt8} {l : List UInt8} (k : Nat) (hk : 3 ≤ k) (ha : isUp a = true) (h3 : l.length = 3) : kind k (a :: l) = 0 := by
  unfold kind variant run
  rw [if_neg (by omega), if_neg (by omega), if_neg (by omega), List.length_cons, h3, List.headD_cons, (up_isUp ha).2.2.1]
  simp
theorem kind_two {l : List UInt8} (k : Nat) (hk : 3 ≤ k) (h2 : l.length = 2) : kind k l = 0 := by
  unfold kind variant run
  rw [if_neg (by omega), if_neg (by omega), if_neg (by omega), h2]
  simp
theorem canon_of {s : List UInt8} {ps : List (List UInt8)} (hc : cut s = ps) (h2 : 2 ≤ ps.length) (hl : s.length ≤ 40) : canon s = (walk 0 [] ps).map join := by
  unfold canon
  rw [if_neg (by omega), if_neg (fun e => by
    have := cut_nosep (map_nosep e)
    rw [hc] at this
    rw [this] at h2
    simp at h2), hc]
theorem Sm.nosep {l : List UInt8} (h : Sm l) : noSep l := fun c hc => sep_isA c (by simp [isA, (lo_isLo (h c hc)).2.1])
theorem Cp.nosep {l : List UInt8} (h : Cp l) : noSep l := fun c hc => sep_isA c (by simp [isA, (up_isUp (h c hc)).2.1])
section
variable {L S R V : List UInt8} {a : UInt8} (hL : Sm L) (l2 : 2 ≤ L.length) (l3 : L.length ≤ 3) (ha : isUp a = true) (hS : Sm S) (s3 : S.length = 3) (hR : Cp R) (r2 : R.length = 2) (hV : Sm V) (v5 : 5 ≤ V.length) (v8 : V.length ≤ 8)
theorem ne_len {x y : List UInt8} (h : x.length ≠ y.length) : ¬ x = y := fun e => h (by rw [e])
include hL l2 hR in
theorem ne_case : ¬ R = L := by
  intro e
  cases L with
  | nil => simp at l2
  | cons c L =>
    have h1 := lo_isLo (hL c (by simp))
    have h2 := hR c (by rw [e]; simp)
    rw [h1.2.2.2] at h2
    cases h2
include hL l2 l3 ha hS s3 hR r2 hV v5 v8 in
theorem built (b c d : Bool) : canon (join ([L] ++ (if b then [a :: S] else []) ++ (if c then [R] else []) ++ (if d then [V] else []))) = some (join ([L] ++ (if b then [a :: S] else []) ++ (if c then [R] else []) ++ (if d then [V] else []))) := by
  have k1 := kind_lang hL l2 l3
  have k2 := kind_script ha hS s3
  have n1 : ¬ (a :: S) = L := ne_len (by rw [List.length_cons, s3]; omega)
  have n2 := ne_case hL l2 hR
  have n3 : ¬ R = a :: S := ne_len (by rw [List.length_cons, s3]; omega)
  have n4 : ¬ V = L := ne_len (by omega)
  have n5 : ¬ V = a :: S := ne_len (by rw [List.length_cons, s3]; omega)
  have n6 : ¬ V = R := ne_len (by omega)
  have kr1 := kind_region 1 (.inl rfl) hR r2
  have kr2 := kind_region 2 (.inr rfl) hR r2
  have kv1 := kind_variant 1 (by decide) hV v5 v8
  have kv2 := kind_variant 2 (by decide) hV v5 v8
  have kv3 := kind_variant 3 (by decide) hV v5 v8
  have hn : Cn ([L] ++ (if b then [a :: S] else []) ++ (if c then [R] else []) ++ (if d then [V] else [])) := by
    refine ⟨by simp, ?_⟩
    cases b <;> cases c <;> cases d <;> simp [walk, k1, k2, kr1, kr2, kv1, kv2, kv3, n1, n2, n3, n4, n5, n6]
  refine hn.canon ?_
  rw [join_len]
  cases b <;> cases c <;> cases d <;> simp [size, s3, r2] <;> omega
include hL l2 l3 ha hS s3 hR r2 in
theorem built_rs : canon (L ++ [45] ++ R ++ [45] ++ (a :: S)) = none := by
  have hc : cut (L ++ [45] ++ R ++ [45] ++ (a :: S)) = [L, R, a :: S] := by
    rw [show L ++ [45] ++ R ++ [45] ++ (a :: S) = L ++ 45 :: (R ++ 45 :: (a :: S)) by simp, cut_at hL.nosep rfl, cut_at hR.nosep rfl, cut_nosep]
    intro c hc
    rcases List.mem_cons.1 hc with rfl | hc
    · exact sep_isA _ (by simp [isA, (up_isUp ha).2.1])
    · exact hS.nosep c hc
  rw [canon_of hc (by simp) (by simp; omega)]
  have k1 := kind_lang hL l2 l3
  have kr1 := kind_region 1 (.inl rfl) hR r2
  have n2 := ne_case hL l2 hR
  have k3 := kind_four (l := S) 3 (by decide) ha s3
  simp [walk, k1, kr1, k3]
include hL l2 l3 hR r2 hV v5 v8 in
theorem built_vr : canon (L ++ [45] ++ V ++ [45] ++ R) = none := by
  have hc : cut (L ++ [45] ++ V ++ [45] ++ R) = [L, V, R] := by
    rw [show L ++ [45] ++ V ++ [45] ++ R = L ++ 45 :: (V ++ 45 :: R) by simp, cut_at hL.nosep rfl, cut_at hV.nosep rfl, cut_nosep hR.nosep]
  rw [canon_of hc (by simp) (by simp; omega)]
  have k1 := kind_lang hL l2 l3
  have kv1 := kind_variant 1 (by decide) hV v5 v8
  have n4 : ¬ V = L := ne_len (by omega)
  have k4 := kind_two (l := R) 4 (by decide) r2
  simp [walk, k1, kv1, k4]
include hL l2 l3 hV v5 v8 in
theorem built_vv : canon (L ++ [45] ++ V ++ [45] ++ V) = none := by
  have hc : cut (L ++ [45] ++ V ++ [45] ++ V) = [L, V, V] := by
    rw [show L ++ [45] ++ V ++ [45] ++ V = L ++ 45 :: (V ++ 45 :: V) by simp, cut_at hL.nosep rfl, cut_at hV.nosep rfl, cut_nosep hV.nosep]
  rw [canon_of hc (by simp) (by simp; omega)]
  have k1 := kind_lang hL l2 l3
  have kv1 := kind_variant 1 (by decide) hV v5 v8
  have kv4 := kind_variant 4 (by decide) hV v5 v8
  have n4 : ¬ V = L := ne_len (by omega)
  simp [walk, k1, kv1, kv4]
end
end G
theorem conv1 (w : World) (x : UInt8) : (convert 36 9 (.slice (some ⟨w.heap.size, 0, none⟩) 1 1)).run Tryd.prog (w.alloc (.cells #[.int .u8 (x.toNat : Int)] 5)) = .ok (.string ⟨[x].toArray⟩) (w.alloc (.cells #[.int .u8 (x.toNat : Int)] 5)) := by
  have h := heap_alloc_new w (.cells #[.int .u8 (x.toNat : Int)] 5)
  have := run_convert_bytes_arg (P := Tryd.prog) (w := w.alloc (.cells #[.int .u8 (x.toNat : Int)] 5)) 36 5 Tryd.underlying36 Tryd.underlying5 w.heap.size 0 1 1 ([x].map fun c => (c.toNat : Int)) (by simp) (fun i hi => by
    match i, hi with
    | 0, _ => exact cell_one h) 9 Tryd.underlying9
  rw [this]
  simp [strOfNums]
set_option maxRecDepth 100000 in
set_option maxHeartbeats 2000000 in
theorem part_any (n f : UInt8) (k : Nat) (hf : f.toNat ≤ 97) (hk : k ≤ 8) (w : World) : Calls Tryd.prog 18 #[U8 n, U8 f, .int .i64 (k : Int)] w fun e w' => e = .returned (tx (G.pt n f k)) ∧ Below w.heap.size w w' := by
  have hn := n.toNat_lt
  unfold U8 tx
  go_enter Tryd.func18, Tryd.ntmps18
  go_wp2
  go_loopw [7, 8] (fun v u wr => ∃ i : Nat, u = .int .i64 (i : Int) ∧ i ≤ k ∧ v = .string ⟨(G.pt n f i).toArray⟩ ∧ Below w.heap.size w wr) (fun _ u _ => k - (intOf u).toNat)
  case atStart => exact ⟨0, rfl, by omega, rfl, Below.refl _ _⟩
  case round =>
    obtain ⟨i, rfl, hi, rfl, hb⟩ := hrel
    by_cases hlt : i < k
    · have e0 : IntKind.u8.wrap ((i : Int)) = (i : Int) := by unfold IntKind.wrap; simp [IntKind.bits, IntKind.signed]; omega
      have hx1 : IntKind.u8.wrap ((n.toNat : Int) + (i : Int)) = ((n + i.toUInt8).toNat : Int) := by unfold IntKind.wrap; simp [IntKind.bits, IntKind.signed]
      have hm := G.mod26 (n + i.toUInt8)
      have hx2 : ((n + i.toUInt8).toNat : Int) % 26 = (((n + i.toUInt8) % 26).toNat : Int) := by simp
      have HP := hide (G.pt_succ n f i)
      have hl := G.pt_len n f i
      have hz := sz_tx (G.pt n f i)
      have hx3 : (f.toNat : Int) + (((n + i.toUInt8) % 26).toNat : Int) = ((f + (n + i.toUInt8) % 26).toNat : Int) := by
        rw [UInt8.toNat_add]
        omega
      have hx4 : (f + (n + i.toUInt8) % 26).toNat ≤ 122 := by
        rw [UInt8.toNat_add]
        omega
      have hx5 : ((n + i.toUInt8).toNat : Int).tmod 26 = (((n + i.toUInt8) % 26).toNat : Int) := by
        rw [← hx2, Int.tmod_eq_emod_of_nonneg (by omega)]
      have hcv := conv1 wr (f + (n + i.toUInt8) % 26)
      have had := add_tx (G.pt n f i) [f + (n + i.toUInt8) % 26]
      rw [← HP.out] at had
      have ha1 := al1 wr (.cells #[.int .u8 ((f + (n + i.toUInt8) % 26).toNat : Int)] 5)
      generalize f + (n + i.toUInt8) % 26 = x at *
      generalize (n + i.toUInt8) % 26 = y at *
      generalize n + i.toUInt8 = z at *
      have hzl := z.toNat_lt
      generalize hq : G.pt n f (i + 1) = q at *
      have HQ := hide hq
      clear hq
      generalize G.pt n f i = p at *
      clear HP
      go_wp2
      go_roundw
      case rel => exact ⟨i + 1, by go_num, by omega, by rw [HQ.out], nx hb ha1⟩
      case measure => simp [intOf]; omega
    · obtain rfl : i = k := by omega
      go_wp2
      go_ret
      exact ⟨rfl, hb⟩
theorem built_facts (a0 b0 c0 d0 : UInt8) (b c d : Bool) : ∃ (L S0 S1 R V : List UInt8) (kl kv : Nat), Hid (kl = 2 + a0.toNat / 26 % 2) ∧ Hid (kv = 5 + d0.toNat / 26 % 4) ∧ kl ≤ 3 ∧ kv ≤ 8 ∧
    (∀ W, Calls Tryd.prog 18 #[U8 a0, U8 97, .int .i64 (kl : Int)] W fun e w' => e = .returned (tx L) ∧ Below W.heap.size W w') ∧
    (∀ W, Calls Tryd.prog 18 #[U8 b0, U8 65, .int .i64 1] W fun e w' => e = .returned (tx S0) ∧ Below W.heap.size W w') ∧
    (∀ W, Calls Tryd.prog 18 #[U8 (b0 / 2), U8 97, .int .i64 3] W fun e w' => e = .returned (tx S1) ∧ Below W.heap.size W w') ∧
    (∀ W, Calls Tryd.prog 18 #[U8 c0, U8 65, .int .i64 2] W fun e w' => e = .returned (tx R) ∧ Below W.heap.size W w') ∧
    (∀ W, Calls Tryd.prog 18 #[U8 d0, U8 97, .int .i64 (kv : Int)] W fun e w' => e = .returned (tx V) ∧ Below W.heap.size W w') ∧
    L.length ≤ 3 ∧ S0.length = 1 ∧ S1.length = 3 ∧ R.length = 2 ∧ V.length ≤ 8 ∧
    G.canon (G.join ([L] ++ (if b then [S0 ++ S1] else []) ++ (if c then [R] else []) ++ (if d then [V] else []))) = some (G.join ([L] ++ (if b then [S0 ++ S1] else []) ++ (if c then [R] else []) ++ (if d then [V] else []))) ∧
    G.canon (L ++ [45] ++ R ++ [45] ++ (S0 ++ S1)) = none ∧ G.canon (L ++ [45] ++ V ++ [45] ++ R) = none ∧ G.canon (L ++ [45] ++ V ++ [45] ++ V) = none := by
  have l1 := G.pt_len a0 97 (2 + a0.toNat / 26 % 2)
  have l3 := G.pt_len (b0 / 2) 97 3
  have l4 := G.pt_len c0 65 2
  have l5 := G.pt_len d0 97 (5 + d0.toNat / 26 % 4)
  have s1 : G.Sm (G.pt a0 97 (2 + a0.toNat / 26 % 2)) := G.pt_lo _ _
  have s3 : G.Sm (G.pt (b0 / 2) 97 3) := G.pt_lo _ _
  have s4 : G.Cp (G.pt c0 65 2) := G.pt_up _ _
  have s5 : G.Sm (G.pt d0 97 (5 + d0.toNat / 26 % 4)) := G.pt_lo _ _
  have h2 : G.pt b0 65 1 = [65 + (b0 + 0) % 26] := rfl
  have hu := G.pt_up b0 1 (65 + (b0 + 0) % 26) (by rw [h2]; simp)
  refine ⟨_, _, _, _, _, _, _, hide rfl, hide rfl, by omega, by omega, fun W => part_any a0 97 (2 + a0.toNat / 26 % 2) (by decide) (by omega) W, fun W => part_any b0 65 1 (by decide) (by omega) W, fun W => part_any (b0 / 2) 97 3 (by decide) (by omega) W, fun W => part_any c0 65 2 (by decide) (by omega) W, fun W => part_any d0 97 (5 + d0.toNat / 26 % 4) (by decide) (by omega) W, by omega, G.pt_len _ _ _, l3, l4, by omega, ?_, ?_, ?_, ?_⟩
  · rw [h2]
    exact G.built s1 (by omega) (by omega) hu s3 l3 s4 l4 s5 (by omega) (by omega) b c d
  · rw [h2]
    exact G.built_rs s1 (by omega) (by omega) hu s3 l3 s4 l4
  · exact G.built_vr s1 (by omega) (by omega) s4 l4 s5 (by omega) (by omega)
  · exact G.built_vv s1 (by omega) (by omega) s5 (by omega) (by omega)
set_option maxRecDepth 100000 in
set_option maxHeartbeats 1000000 in
theorem built_000 (a0 b0 c0 d0 : UInt8) (w : World) (hA : AF w) : Calls Tryd.prog 5 #[U8 a0, U8 b0, U8 c0, U8 d0, .bool false, .bool false, .bool false] w fun e W' => e = .returned (.bool true) ∧ Below w.heap.size w W' := by
  obtain ⟨L, S0, S1, R, V, kl, kv, hkl, hkv, kl3, kv8, hp1, hp2, hp3, hp4, hp5, fl3, fs0, fs1, fr2, fv8, hcn, h_rs, h_vr, h_vv⟩ := built_facts a0 b0 c0 d0 false false false
  have hk := known_any w hA
  have HA := hide hA
  clear hA
  have eS := add_tx S0 S1
  have zS : (S0 ++ S1).length = 4 := by rw [List.length_append, fs0, fs1]
  have zz0 := sz_tx S0
  have zz1 := sz_tx S1
  have fs0' : S0.length ≤ 1 := by omega
  have fs1' : S1.length ≤ 3 := by omega
  have zS' : (S0 ++ S1).length ≤ 4 := by omega
  generalize S0 ++ S1 = S at *
  obtain ⟨f1, hf1⟩ : ∃ q, q = L ++ [45] := ⟨_, rfl⟩
  have ef1 := add_tx L [45]
  rw [← hf1] at ef1
  have lf1 : f1.length ≤ 4 := by rw [hf1, List.length_append]; simp only [List.length_cons, List.length_nil]; omega
  have zf1 := sz_tx f1
  obtain ⟨f2, hf2⟩ : ∃ q, q = f1 ++ R := ⟨_, rfl⟩
  have ef2 := add_tx f1 R
  rw [← hf2] at ef2
  have lf2 : f2.length ≤ 6 := by rw [hf2, List.length_append]; omega
  have zf2 := sz_tx f2
  obtain ⟨f3, hf3⟩ : ∃ q, q = f2 ++ [45] := ⟨_, rfl⟩
  have ef3 := add_tx f2 [45]
  rw [← hf3] at ef3
  have lf3 : f3.length ≤ 7 := by rw [hf3, List.length_append]; simp only [List.length_cons, List.length_nil]; omega
  have zf3 := sz_tx f3
  obtain ⟨f4, hf4⟩ : ∃ q, q = f3 ++ S := ⟨_, rfl⟩
  have ef4 := add_tx f3 S
  rw [← hf4] at ef4
  have lf4 : f4.length ≤ 11 := by rw [hf4, List.length_append]; omega
  have zf4 := sz_tx f4
  obtain ⟨g2, hg2⟩ : ∃ q, q = f1 ++ V := ⟨_, rfl⟩
  have eg2 := add_tx f1 V
  rw [← hg2] at eg2
  have lg2 : g2.length ≤ 12 := by rw [hg2, List.length_append]; omega
  have zg2 := sz_tx g2
  obtain ⟨g3, hg3⟩ : ∃ q, q = g2 ++ [45] := ⟨_, rfl⟩
  have eg3 := add_tx g2 [45]
  rw [← hg3] at eg3
  have lg3 : g3.length ≤ 13 := by rw [hg3, List.length_append]; simp only [List.length_cons, List.length_nil]; omega
  have zg3 := sz_tx g3
  obtain ⟨g4, hg4⟩ : ∃ q, q = g3 ++ R := ⟨_, rfl⟩
  have eg4 := add_tx g3 R
  rw [← hg4] at eg4
  have lg4 : g4.length ≤ 15 := by rw [hg4, List.length_append]; omega
  have zg4 := sz_tx g4
  obtain ⟨h4, hh4⟩ : ∃ q, q = g3 ++ V := ⟨_, rfl⟩
  have eh4 := add_tx g3 V
  rw [← hh4] at eh4
  have lh4 : h4.length ≤ 21 := by rw [hh4, List.length_append]; omega
  have zh4 := sz_tx h4
  have hcn2 : G.canon L = some L := by
    have : G.join ([L] ++ (if false then [S] else []) ++ (if false then [R] else []) ++ (if false then [V] else [])) = L := by
      simp [G.join]
    rw [this] at hcn
    exact hcn
  rw [← hf1, ← hf2, ← hf3, ← hf4] at h_rs
  rw [← hf1, ← hg2, ← hg3] at h_vr h_vv
  rw [← hg4] at h_vr
  rw [← hh4] at h_vv
  have hT := G.isT_canon hcn2
  have k9 := fun W (hW : AF W) => canon_ok hcn2 W hW
  have k9f := fun W (hW : AF W) => canon_no h_rs (by omega) W hW
  have k9g := fun W (hW : AF W) => canon_no h_vr (by omega) W hW
  have k9h := fun W (hW : AF W) => canon_no h_vv (by omega) W hW
  have k11 := fun W (hW : AF W) => is_any L (by omega) W hW
  rw [hT] at k11
  have ett : (L == L) = true := by simp
  have zL := sz_tx L
  have zSS := sz_tx S
  have zR := sz_tx R
  have zV := sz_tx V
  have ha := a0.toNat_lt
  have hb := b0.toNat_lt
  have hd := d0.toNat_lt
  obtain ⟨q1, hq1⟩ : ∃ q : Nat, q = a0.toNat / 26 := ⟨_, rfl⟩
  obtain ⟨q2, hq2⟩ : ∃ q : Nat, q = q1 % 2 := ⟨_, rfl⟩
  obtain ⟨q3, hq3⟩ : ∃ q : Nat, q = d0.toNat / 26 := ⟨_, rfl⟩
  obtain ⟨q4, hq4⟩ : ∃ q : Nat, q = q3 % 4 := ⟨_, rfl⟩
  have x1 : (a0.toNat : Int) / 26 = (q1 : Int) := by omega
  have x1t : (a0.toNat : Int).tdiv 26 = (q1 : Int) := by rw [Int.tdiv_eq_ediv_of_nonneg (by omega)]; omega
  have x2 : (q1 : Int) % 2 = (q2 : Int) := by omega
  have x2t : (q1 : Int).tmod 2 = (q2 : Int) := by rw [Int.tmod_eq_emod_of_nonneg (by omega)]; omega
  have x3 : (2 : Int) + (q2 : Int) = (kl : Int) := by have := hkl.out; omega
  have x4 : (d0.toNat : Int) / 26 = (q3 : Int) := by omega
  have x4t : (d0.toNat : Int).tdiv 26 = (q3 : Int) := by rw [Int.tdiv_eq_ediv_of_nonneg (by omega)]; omega
  have x5 : (q3 : Int) % 4 = (q4 : Int) := by omega
  have x5t : (q3 : Int).tmod 4 = (q4 : Int) := by rw [Int.tmod_eq_emod_of_nonneg (by omega)]; omega
  have x6 : (5 : Int) + (q4 : Int) = (kv : Int) := by have := hkv.out; omega
  have x7 : (b0.toNat : Int) / 2 = ((b0 / 2).toNat : Int) := by rw [UInt8.toNat_div]; rfl
  have x7t : (b0.toNat : Int).tdiv 2 = ((b0 / 2).toNat : Int) := by rw [Int.tdiv_eq_ediv_of_nonneg (by omega)]; exact x7
  have b1 : q1 ≤ 9 := by omega
  have b2 : q2 ≤ 1 := by omega
  have b3 : q3 ≤ 9 := by omega
  have b4 : q4 ≤ 3 := by omega
  generalize b0 / 2 = bh at *
  have hbh := bh.toNat_lt
  clear hcn hcn2 h_rs h_vr h_vv hT hkl hkv hq1 hq2 hq3 hq4 hf1 hf2 hf3 hf4 hg2 hg3 hg4 hh4 fs0 fs1 zS
  simp only [U8, tx, show (((97 : UInt8).toNat : Nat) : Int) = 97 from rfl, show (((65 : UInt8).toNat : Nat) : Int) = 65 from rfl] at hp1 hp2 hp3 hp4 hp5 k9 k9f k9g k9h k11
  unfold U8
  go_enter Tryd.func5, Tryd.ntmps5
  go_wp2_with fail
  refine hk.mono ?_
  rintro e w1 ⟨rfl, b1⟩
  have A1 := hide (HA.out.later b1)
  have B1 := hide b1
  clear HA hk b1
  go_wp2_with fail
  with_reducible refine (hp1 w1).mono ?_
  rintro e w2 ⟨rfl, b2⟩
  have A2 := hide (A1.out.later b2)
  have B2 := hide (nx B1.out b2)
  clear A1 B1 b2 hp1
  go_wp2_with fail
  with_reducible refine (hp2 w2).mono ?_
  rintro e w3 ⟨rfl, b3⟩
  have A3 := hide (A2.out.later b3)
  have B3 := hide (nx B2.out b3)
  clear A2 B2 b3 hp2
  go_wp2_with fail
  with_reducible refine (hp3 w3).mono ?_
  rintro e w4 ⟨rfl, b4⟩
  have A4 := hide (A3.out.later b4)
  have B4 := hide (nx B3.out b4)
  clear A3 B3 b4 hp3
  go_wp2_with fail
  with_reducible refine (hp4 w4).mono ?_
  rintro e w5 ⟨rfl, b5⟩
  have A5 := hide (A4.out.later b5)
  have B5 := hide (nx B4.out b5)
  clear A4 B4 b5 hp4
  go_wp2_with fail
  with_reducible refine (hp5 w5).mono ?_
  rintro e w6 ⟨rfl, b6⟩
  have A6 := hide (A5.out.later b6)
  have B6 := hide (nx B5.out b6)
  clear A5 B5 b6 hp5
  go_wp2_with fail
  with_reducible refine (k9 w6 A6.out).mono ?_
  rintro e w7 ⟨rfl, b7⟩
  have A7 := hide (A6.out.later b7)
  have B7 := hide (nx B6.out b7)
  clear A6 B6 b7 k9
  go_wp2_with fail
  with_reducible refine (k9f w7 A7.out).mono ?_
  rintro e w8 ⟨rfl, b8⟩
  have A8 := hide (A7.out.later b8)
  have B8 := hide (nx B7.out b8)
  clear A7 B7 b8 k9f
  go_wp2_with fail
  with_reducible refine (k9g w8 A8.out).mono ?_
  rintro e w9 ⟨rfl, b9⟩
  have A9 := hide (A8.out.later b9)
  have B9 := hide (nx B8.out b9)
  clear A8 B8 b9 k9g
  go_wp2_with fail
  with_reducible refine (k9h w9 A9.out).mono ?_
  rintro e w10 ⟨rfl, b10⟩
  have A10 := hide (A9.out.later b10)
  have B10 := hide (nx B9.out b10)
  clear A9 B9 b10 k9h
  go_wp2_with fail
  with_reducible refine (k11 w10 A10.out).mono ?_
  rintro e w11 ⟨rfl, b11⟩
  have A11 := hide (A10.out.later b11)
  have B11 := hide (nx B10.out b11)
  clear A10 B10 b11 k11
  go_wp2
  go_ret
  exact ⟨rfl, B11.out⟩
set_option maxRecDepth 100000 in
set_option maxHeartbeats 1000000 in
theorem built_001 (a0 b0 c0 d0 : UInt8) (w : World) (hA : AF w) : Calls Tryd.prog 5 #[U8 a0, U8 b0, U8 c0, U8 d0, .bool false, .bool false, .bool true] w fun e W' => e = .returned (.bool true) ∧ Below w.heap.size w W' := by
  obtain ⟨L, S0, S1, R, V, kl, kv, hkl, hkv, kl3, kv8, hp1, hp2, hp3, hp4, hp5, fl3, fs0, fs1, fr2, fv8, hcn, h_rs, h_vr, h_vv⟩ := built_facts a0 b0 c0 d0 false false true
  have hk := known_any w hA
  have HA := hide hA
  clear hA
  have eS := add_tx S0 S1
  have zS : (S0 ++ S1).length = 4 := by rw [List.length_append, fs0, fs1]
  have zz0 := sz_tx S0
  have zz1 := sz_tx S1
  have fs0' : S0.length ≤ 1 := by omega
  have fs1' : S1.length ≤ 3 := by omega
  have zS' : (S0 ++ S1).length ≤ 4 := by omega
  generalize S0 ++ S1 = S at *
  obtain ⟨t1V, ht1V⟩ : ∃ q, q = L ++ [45] := ⟨_, rfl⟩
  have et1V := add_tx L [45]
  rw [← ht1V] at et1V
  have lt1V : t1V.length ≤ 4 := by rw [ht1V, List.length_append]; simp only [List.length_cons, List.length_nil]; omega
  have zt1V := sz_tx t1V
  obtain ⟨t2V, ht2V⟩ : ∃ q, q = t1V ++ V := ⟨_, rfl⟩
  have et2V := add_tx t1V V
  rw [← ht2V] at et2V
  have lt2V : t2V.length ≤ 12 := by rw [ht2V, List.length_append]; omega
  have zt2V := sz_tx t2V
  obtain ⟨f2, hf2⟩ : ∃ q, q = t1V ++ R := ⟨_, rfl⟩
  have ef2 := add_tx t1V R
  rw [← hf2] at ef2
  have lf2 : f2.length ≤ 6 := by rw [hf2, List.length_append]; omega
  have zf2 := sz_tx f2
  obtain ⟨f3, hf3⟩ : ∃ q, q = f2 ++ [45] := ⟨_, rfl⟩
  have ef3 := add_tx f2 [45]
  rw [← hf3] at ef3
  have lf3 : f3.length ≤ 7 := by rw [hf3, List.length_append]; simp only [List.length_cons, List.length_nil]; omega
  have zf3 := sz_tx f3
  obtain ⟨f4, hf4⟩ : ∃ q, q = f3 ++ S := ⟨_, rfl⟩
  have ef4 := add_tx f3 S
  rw [← hf4] at ef4
  have lf4 : f4.length ≤ 11 := by rw [hf4, List.length_append]; omega
  have zf4 := sz_tx f4
  obtain ⟨g3, hg3⟩ : ∃ q, q = t2V ++ [45] := ⟨_, rfl⟩
  have eg3 := add_tx t2V [45]
  rw [← hg3] at eg3
  have lg3 : g3.length ≤ 13 := by rw [hg3, List.length_append]; simp only [List.length_cons, List.length_nil]; omega
  have zg3 := sz_tx g3
  obtain ⟨g4, hg4⟩ : ∃ q, q = g3 ++ R := ⟨_, rfl⟩
  have eg4 := add_tx g3 R
  rw [← hg4] at eg4
  have lg4 : g4.length ≤ 15 := by rw [hg4, List.length_append]; omega
  have zg4 := sz_tx g4
  obtain ⟨h4, hh4⟩ : ∃ q, q = g3 ++ V := ⟨_, rfl⟩
  have eh4 := add_tx g3 V
  rw [← hh4] at eh4
  have lh4 : h4.length ≤ 21 := by rw [hh4, List.length_append]; omega
  have zh4 := sz_tx h4
  have hcn2 : G.canon t2V = some t2V := by
    have : G.join ([L] ++ (if false then [S] else []) ++ (if false then [R] else []) ++ (if true then [V] else [])) = t2V := by
      simp [G.join, ht1V, ht2V]
    rw [this] at hcn
    exact hcn
  rw [← ht1V, ← hf2, ← hf3, ← hf4] at h_rs
  rw [← ht1V, ← ht2V, ← hg3] at h_vr h_vv
  rw [← hg4] at h_vr
  rw [← hh4] at h_vv
  have hT := G.isT_canon hcn2
  have k9 := fun W (hW : AF W) => canon_ok hcn2 W hW
  have k9f := fun W (hW : AF W) => canon_no h_rs (by omega) W hW
  have k9g := fun W (hW : AF W) => canon_no h_vr (by omega) W hW
  have k9h := fun W (hW : AF W) => canon_no h_vv (by omega) W hW
  have k11 := fun W (hW : AF W) => is_any t2V (by omega) W hW
  rw [hT] at k11
  have ett : (t2V == t2V) = true := by simp
  have zL := sz_tx L
  have zSS := sz_tx S
  have zR := sz_tx R
  have zV := sz_tx V
  have ha := a0.toNat_lt
  have hb := b0.toNat_lt
  have hd := d0.toNat_lt
  obtain ⟨q1, hq1⟩ : ∃ q : Nat, q = a0.toNat / 26 := ⟨_, rfl⟩
  obtain ⟨q2, hq2⟩ : ∃ q : Nat, q = q1 % 2 := ⟨_, rfl⟩
  obtain ⟨q3, hq3⟩ : ∃ q : Nat, q = d0.toNat / 26 := ⟨_, rfl⟩
  obtain ⟨q4, hq4⟩ : ∃ q : Nat, q = q3 % 4 := ⟨_, rfl⟩
  have x1 : (a0.toNat : Int) / 26 = (q1 : Int) := by omega
  have x1t : (a0.toNat : Int).tdiv 26 = (q1 : Int) := by rw [Int.tdiv_eq_ediv_of_nonneg (by omega)]; omega
  have x2 : (q1 : Int) % 2 = (q2 : Int) := by omega
  have x2t : (q1 : Int).tmod 2 = (q2 : Int) := by rw [Int.tmod_eq_emod_of_nonneg (by omega)]; omega
  have x3 : (2 : Int) + (q2 : Int) = (kl : Int) := by have := hkl.out; omega
  have x4 : (d0.toNat : Int) / 26 = (q3 : Int) := by omega
  have x4t : (d0.toNat : Int).tdiv 26 = (q3 : Int) := by rw [Int.tdiv_eq_ediv_of_nonneg (by omega)]; omega
  have x5 : (q3 : Int) % 4 = (q4 : Int) := by omega
  have x5t : (q3 : Int).tmod 4 = (q4 : Int) := by rw [Int.tmod_eq_emod_of_nonneg (by omega)]; omega
  have x6 : (5 : Int) + (q4 : Int) = (kv : Int) := by have := hkv.out; omega
  have x7 : (b0.toNat : Int) / 2 = ((b0 / 2).toNat : Int) := by rw [UInt8.toNat_div]; rfl
  have x7t : (b0.toNat : Int).tdiv 2 = ((b0 / 2).toNat : Int) := by rw [Int.tdiv_eq_ediv_of_nonneg (by omega)]; exact x7
  have b1 : q1 ≤ 9 := by omega
  have b2 : q2 ≤ 1 := by omega
  have b3 : q3 ≤ 9 := by omega
  have b4 : q4 ≤ 3 := by omega
  generalize b0 / 2 = bh at *
  have hbh := bh.toNat_lt
  clear hcn hcn2 h_rs h_vr h_vv hT hkl hkv hq1 hq2 hq3 hq4 ht1V ht2V hf2 hf3 hf4 hg3 hg4 hh4 fs0 fs1 zS
  simp only [U8, tx, show (((97 : UInt8).toNat : Nat) : Int) = 97 from rfl, show (((65 : UInt8).toNat : Nat) : Int) = 65 from rfl] at hp1 hp2 hp3 hp4 hp5 k9 k9f k9g k9h k11
  unfold U8
  go_enter Tryd.func5, Tryd.ntmps5
  go_wp2_with fail
  refine hk.mono ?_
  rintro e w1 ⟨rfl, b1⟩
  have A1 := hide (HA.out.later b1)
  have B1 := hide b1
  clear HA hk b1
  go_wp2_with fail
  with_reducible refine (hp1 w1).mono ?_
  rintro e w2 ⟨rfl, b2⟩
  have A2 := hide (A1.out.later b2)
  have B2 := hide (nx B1.out b2)
  clear A1 B1 b2 hp1
  go_wp2_with fail
  with_reducible refine (hp2 w2).mono ?_
  rintro e w3 ⟨rfl, b3⟩
  have A3 := hide (A2.out.later b3)
  have B3 := hide (nx B2.out b3)
  clear A2 B2 b3 hp2
  go_wp2_with fail
  with_reducible refine (hp3 w3).mono ?_
  rintro e w4 ⟨rfl, b4⟩
  have A4 := hide (A3.out.later b4)
  have B4 := hide (nx B3.out b4)
  clear A3 B3 b4 hp3
  go_wp2_with fail
  with_reducible refine (hp4 w4).mono ?_
  rintro e w5 ⟨rfl, b5⟩
  have A5 := hide (A4.out.later b5)
  have B5 := hide (nx B4.out b5)
  clear A4 B4 b5 hp4
  go_wp2_with fail
  with_reducible refine (hp5 w5).mono ?_
  rintro e w6 ⟨rfl, b6⟩
  have A6 := hide (A5.out.later b6)
  have B6 := hide (nx B5.out b6)
  clear A5 B5 b6 hp5
  go_wp2_with fail
  with_reducible refine (k9 w6 A6.out).mono ?_
  rintro e w7 ⟨rfl, b7⟩
  have A7 := hide (A6.out.later b7)
  have B7 := hide (nx B6.out b7)
  clear A6 B6 b7 k9
  go_wp2_with fail
  with_reducible refine (k9f w7 A7.out).mono ?_
  rintro e w8 ⟨rfl, b8⟩
  have A8 := hide (A7.out.later b8)
  have B8 := hide (nx B7.out b8)
  clear A7 B7 b8 k9f
  go_wp2_with fail
  with_reducible refine (k9g w8 A8.out).mono ?_
  rintro e w9 ⟨rfl, b9⟩
  have A9 := hide (A8.out.later b9)
  have B9 := hide (nx B8.out b9)
  clear A8 B8 b9 k9g
  go_wp2_with fail
  with_reducible refine (k9h w9 A9.out).mono ?_
  rintro e w10 ⟨rfl, b10⟩
  have A10 := hide (A9.out.later b10)
  have B10 := hide (nx B9.out b10)
  clear A9 B9 b10 k9h
  go_wp2_with fail
  with_reducible refine (k11 w10 A10.out).mono ?_
  rintro e w11 ⟨rfl, b11⟩
  have A11 := hide (A10.out.later b11)
  have B11 := hide (nx B10.out b11)
  clear A10 B10 b11 k11
  go_wp2
  go_ret
  exact ⟨rfl, B11.out⟩
set_option maxRecDepth 100000 in
set_option maxHeartbeats 1000000 in
theorem built_010 (a0 b0 c0 d0 : UInt8) (w : World) (hA : AF w) : Calls Tryd.prog 5 #[U8 a0, U8 b0, U8 c0, U8 d0, .bool false, .bool true, .bool false] w fun e W' => e = .returned (.bool true) ∧ Below w.heap.size w W' := by
  obtain ⟨L, S0, S1, R, V, kl, kv, hkl, hkv, kl3, kv8, hp1, hp2, hp3, hp4, hp5, fl3, fs0, fs1, fr2, fv8, hcn, h_rs, h_vr, h_vv⟩ := built_facts a0 b0 c0 d0 false true false
  have hk := known_any w hA
  have HA := hide hA
  clear hA
  have eS := add_tx S0 S1
  have zS : (S0 ++ S1).length = 4 := by rw [List.length_append, fs0, fs1]
  have zz0 := sz_tx S0
  have zz1 := sz_tx S1
  have fs0' : S0.length ≤ 1 := by omega
  have fs1' : S1.length ≤ 3 := by omega
  have zS' : (S0 ++ S1).length ≤ 4 := by omega
  generalize S0 ++ S1 = S at *
  obtain ⟨t1R, ht1R⟩ : ∃ q, q = L ++ [45] := ⟨_, rfl⟩
  have et1R := add_tx L [45]
  rw [← ht1R] at et1R
  have lt1R : t1R.length ≤ 4 := by rw [ht1R, List.length_append]; simp only [List.length_cons, List.length_nil]; omega
  have zt1R := sz_tx t1R
  obtain ⟨t2R, ht2R⟩ : ∃ q, q = t1R ++ R := ⟨_, rfl⟩
  have et2R := add_tx t1R R
  rw [← ht2R] at et2R
  have lt2R : t2R.length ≤ 6 := by rw [ht2R, List.length_append]; omega
  have zt2R := sz_tx t2R
  obtain ⟨f3, hf3⟩ : ∃ q, q = t2R ++ [45] := ⟨_, rfl⟩
  have ef3 := add_tx t2R [45]
  rw [← hf3] at ef3
  have lf3 : f3.length ≤ 7 := by rw [hf3, List.length_append]; simp only [List.length_cons, List.length_nil]; omega
  have zf3 := sz_tx f3
  obtain ⟨f4, hf4⟩ : ∃ q, q = f3 ++ S := ⟨_, rfl⟩
  have ef4 := add_tx f3 S
  rw [← hf4] at ef4
  have lf4 : f4.length ≤ 11 := by rw [hf4, List.length_append]; omega
  have zf4 := sz_tx f4
  obtain ⟨g2, hg2⟩ : ∃ q, q = t1R ++ V := ⟨_, rfl⟩
  have eg2 := add_tx t1R V
  rw [← hg2] at eg2
  have lg2 : g2.length ≤ 12 := by rw [hg2, List.length_append]; omega
  have zg2 := sz_tx g2
  obtain ⟨g3, hg3⟩ : ∃ q, q = g2 ++ [45] := ⟨_, rfl⟩
  have eg3 := add_tx g2 [45]
  rw [← hg3] at eg3
  have lg3 : g3.length ≤ 13 := by rw [hg3, List.length_append]; simp only [List.length_cons, List.length_nil]; omega
  have zg3 := sz_tx g3
  obtain ⟨g4, hg4⟩ : ∃ q, q = g3 ++ R := ⟨_, rfl⟩
  have eg4 := add_tx g3 R
  rw [← hg4] at eg4
  have lg4 : g4.length ≤ 15 := by rw [hg4, List.length_append]; omega
  have zg4 := sz_tx g4
  obtain ⟨h4, hh4⟩ : ∃ q, q = g3 ++ V := ⟨_, rfl⟩
  have eh4 := add_tx g3 V
  rw [← hh4] at eh4
  have lh4 : h4.length ≤ 21 := by rw [hh4, List.length_append]; omega
  have zh4 := sz_tx h4
  have hcn2 : G.canon t2R = some t2R := by
    have : G.join ([L] ++ (if false then [S] else []) ++ (if true then [R] else []) ++ (if false then [V] else [])) = t2R := by
      simp [G.join, ht1R, ht2R]
    rw [this] at hcn
    exact hcn
  rw [← ht1R, ← ht2R, ← hf3, ← hf4] at h_rs
  rw [← ht1R, ← hg2, ← hg3] at h_vr h_vv
  rw [← hg4] at h_vr
  rw [← hh4] at h_vv
  have hT := G.isT_canon hcn2
  have k9 := fun W (hW : AF W) => canon_ok hcn2 W hW
  have k9f := fun W (hW : AF W) => canon_no h_rs (by omega) W hW
  have k9g := fun W (hW : AF W) => canon_no h_vr (by omega) W hW
  have k9h := fun W (hW : AF W) => canon_no h_vv (by omega) W hW
  have k11 := fun W (hW : AF W) => is_any t2R (by omega) W hW
  rw [hT] at k11
  have ett : (t2R == t2R) = true := by simp
  have zL := sz_tx L
  have zSS := sz_tx S
  have zR := sz_tx R
  have zV := sz_tx V
  have ha := a0.toNat_lt
  have hb := b0.toNat_lt
  have hd := d0.toNat_lt
  obtain ⟨q1, hq1⟩ : ∃ q : Nat, q = a0.toNat / 26 := ⟨_, rfl⟩
  obtain ⟨q2, hq2⟩ : ∃ q : Nat, q = q1 % 2 := ⟨_, rfl⟩
  obtain ⟨q3, hq3⟩ : ∃ q : Nat, q = d0.toNat / 26 := ⟨_, rfl⟩
  obtain ⟨q4, hq4⟩ : ∃ q : Nat, q = q3 % 4 := ⟨_, rfl⟩
  have x1 : (a0.toNat : Int) / 26 = (q1 : Int) := by omega
  have x1t : (a0.toNat : Int).tdiv 26 = (q1 : Int) := by rw [Int.tdiv_eq_ediv_of_nonneg (by omega)]; omega
  have x2 : (q1 : Int) % 2 = (q2 : Int) := by omega
  have x2t : (q1 : Int).tmod 2 = (q2 : Int) := by rw [Int.tmod_eq_emod_of_nonneg (by omega)]; omega
  have x3 : (2 : Int) + (q2 : Int) = (kl : Int) := by have := hkl.out; omega
  have x4 : (d0.toNat : Int) / 26 = (q3 : Int) := by omega
  have x4t : (d0.toNat : Int).tdiv 26 = (q3 : Int) := by rw [Int.tdiv_eq_ediv_of_nonneg (by omega)]; omega
  have x5 : (q3 : Int) % 4 = (q4 : Int) := by omega
  have x5t : (q3 : Int).tmod 4 = (q4 : Int) := by rw [Int.tmod_eq_emod_of_nonneg (by omega)]; omega
  have x6 : (5 : Int) + (q4 : Int) = (kv : Int) := by have := hkv.out; omega
  have x7 : (b0.toNat : Int) / 2 = ((b0 / 2).toNat : Int) := by rw [UInt8.toNat_div]; rfl
  have x7t : (b0.toNat : Int).tdiv 2 = ((b0 / 2).toNat : Int) := by rw [Int.tdiv_eq_ediv_of_nonneg (by omega)]; exact x7
  have b1 : q1 ≤ 9 := by omega
  have b2 : q2 ≤ 1 := by omega
  have b3 : q3 ≤ 9 := by omega
  have b4 : q4 ≤ 3 := by omega
  generalize b0 / 2 = bh at *
  have hbh := bh.toNat_lt
  clear hcn hcn2 h_rs h_vr h_vv hT hkl hkv hq1 hq2 hq3 hq4 ht1R ht2R hf3 hf4 hg2 hg3 hg4 hh4 fs0 fs1 zS
  simp only [U8, tx, show (((97 : UInt8).toNat : Nat) : Int) = 97 from rfl, show (((65 : UInt8).toNat : Nat) : Int) = 65 from rfl] at hp1 hp2 hp3 hp4 hp5 k9 k9f k9g k9h k11
  unfold U8
  go_enter Tryd.func5, Tryd.ntmps5
  go_wp2_with fail
  refine hk.mono ?_
  rintro e w1 ⟨rfl, b1⟩
  have A1 := hide (HA.out.later b1)
  have B1 := hide b1
  clear HA hk b1
  go_wp2_with fail
  with_reducible refine (hp1 w1).mono ?_
  rintro e w2 ⟨rfl, b2⟩
  have A2 := hide (A1.out.later b2)
  have B2 := hide (nx B1.out b2)
  clear A1 B1 b2 hp1
  go_wp2_with fail
  with_reducible refine (hp2 w2).mono ?_
  rintro e w3 ⟨rfl, b3⟩
  have A3 := hide (A2.out.later b3)
  have B3 := hide (nx B2.out b3)
  clear A2 B2 b3 hp2
  go_wp2_with fail
  with_reducible refine (hp3 w3).mono ?_
  rintro e w4 ⟨rfl, b4⟩
  have A4 := hide (A3.out.later b4)
  have B4 := hide (nx B3.out b4)
  clear A3 B3 b4 hp3
  go_wp2_with fail
  with_reducible refine (hp4 w4).mono ?_
  rintro e w5 ⟨rfl, b5⟩
  have A5 := hide (A4.out.later b5)
  have B5 := hide (nx B4.out b5)
  clear A4 B4 b5 hp4
  go_wp2_with fail
  with_reducible refine (hp5 w5).mono ?_
  rintro e w6 ⟨rfl, b6⟩
  have A6 := hide (A5.out.later b6)
  have B6 := hide (nx B5.out b6)
  clear A5 B5 b6 hp5
  go_wp2_with fail
  with_reducible refine (k9 w6 A6.out).mono ?_
  rintro e w7 ⟨rfl, b7⟩
  have A7 := hide (A6.out.later b7)
  have B7 := hide (nx B6.out b7)
  clear A6 B6 b7 k9
  go_wp2_with fail
  with_reducible refine (k9f w7 A7.out).mono ?_
  rintro e w8 ⟨rfl, b8⟩
  have A8 := hide (A7.out.later b8)
  have B8 := hide (nx B7.out b8)
  clear A7 B7 b8 k9f
  go_wp2_with fail
  with_reducible refine (k9g w8 A8.out).mono ?_
  rintro e w9 ⟨rfl, b9⟩
  have A9 := hide (A8.out.later b9)
  have B9 := hide (nx B8.out b9)
  clear A8 B8 b9 k9g
  go_wp2_with fail
  with_reducible refine (k9h w9 A9.out).mono ?_
  rintro e w10 ⟨rfl, b10⟩
  have A10 := hide (A9.out.later b10)
  have B10 := hide (nx B9.out b10)
  clear A9 B9 b10 k9h
  go_wp2_with fail
  with_reducible refine (k11 w10 A10.out).mono ?_
  rintro e w11 ⟨rfl, b11⟩
  have A11 := hide (A10.out.later b11)
  have B11 := hide (nx B10.out b11)
  clear A10 B10 b11 k11
  go_wp2
  go_ret
  exact ⟨rfl, B11.out⟩
set_option maxRecDepth 100000 in
set_option maxHeartbeats 1000000 in
theorem built_011 (a0 b0 c0 d0 : UInt8) (w : World) (hA : AF w) : Calls Tryd.prog 5 #[U8 a0, U8 b0, U8 c0, U8 d0, .bool false, .bool true, .bool true] w fun e W' => e = .returned (.bool true) ∧ Below w.heap.size w W' := by
  obtain ⟨L, S0, S1, R, V, kl, kv, hkl, hkv, kl3, kv8, hp1, hp2, hp3, hp4, hp5, fl3, fs0, fs1, fr2, fv8, hcn, h_rs, h_vr, h_vv⟩ := built_facts a0 b0 c0 d0 false true true
  have hk := known_any w hA
  have HA := hide hA
  clear hA
  have eS := add_tx S0 S1
  have zS : (S0 ++ S1).length = 4 := by rw [List.length_append, fs0, fs1]
  have zz0 := sz_tx S0
  have zz1 := sz_tx S1
  have fs0' : S0.length ≤ 1 := by omega
  have fs1' : S1.length ≤ 3 := by omega
  have zS' : (S0 ++ S1).length ≤ 4 := by omega
  generalize S0 ++ S1 = S at *
  obtain ⟨t1R, ht1R⟩ : ∃ q, q = L ++ [45] := ⟨_, rfl⟩
  have et1R := add_tx L [45]
  rw [← ht1R] at et1R
  have lt1R : t1R.length ≤ 4 := by rw [ht1R, List.length_append]; simp only [List.length_cons, List.length_nil]; omega
  have zt1R := sz_tx t1R
  obtain ⟨t2R, ht2R⟩ : ∃ q, q = t1R ++ R := ⟨_, rfl⟩
  have et2R := add_tx t1R R
  rw [← ht2R] at et2R
  have lt2R : t2R.length ≤ 6 := by rw [ht2R, List.length_append]; omega
  have zt2R := sz_tx t2R
  obtain ⟨t1V, ht1V⟩ : ∃ q, q = t2R ++ [45] := ⟨_, rfl⟩
  have et1V := add_tx t2R [45]
  rw [← ht1V] at et1V
  have lt1V : t1V.length ≤ 7 := by rw [ht1V, List.length_append]; simp only [List.length_cons, List.length_nil]; omega
  have zt1V := sz_tx t1V
  obtain ⟨t2V, ht2V⟩ : ∃ q, q = t1V ++ V := ⟨_, rfl⟩
  have et2V := add_tx t1V V
  rw [← ht2V] at et2V
  have lt2V : t2V.length ≤ 15 := by rw [ht2V, List.length_append]; omega
  have zt2V := sz_tx t2V
  obtain ⟨f4, hf4⟩ : ∃ q, q = t1V ++ S := ⟨_, rfl⟩
  have ef4 := add_tx t1V S
  rw [← hf4] at ef4
  have lf4 : f4.length ≤ 11 := by rw [hf4, List.length_append]; omega
  have zf4 := sz_tx f4
  obtain ⟨g2, hg2⟩ : ∃ q, q = t1R ++ V := ⟨_, rfl⟩
  have eg2 := add_tx t1R V
  rw [← hg2] at eg2
  have lg2 : g2.length ≤ 12 := by rw [hg2, List.length_append]; omega
  have zg2 := sz_tx g2
  obtain ⟨g3, hg3⟩ : ∃ q, q = g2 ++ [45] := ⟨_, rfl⟩
  have eg3 := add_tx g2 [45]
  rw [← hg3] at eg3
  have lg3 : g3.length ≤ 13 := by rw [hg3, List.length_append]; simp only [List.length_cons, List.length_nil]; omega
  have zg3 := sz_tx g3
  obtain ⟨g4, hg4⟩ : ∃ q, q = g3 ++ R := ⟨_, rfl⟩
  have eg4 := add_tx g3 R
  rw [← hg4] at eg4
  have lg4 : g4.length ≤ 15 := by rw [hg4, List.length_append]; omega
  have zg4 := sz_tx g4
  obtain ⟨h4, hh4⟩ : ∃ q, q = g3 ++ V := ⟨_, rfl⟩
  have eh4 := add_tx g3 V
  rw [← hh4] at eh4
  have lh4 : h4.length ≤ 21 := by rw [hh4, List.length_append]; omega
  have zh4 := sz_tx h4
  have hcn2 : G.canon t2V = some t2V := by
    have : G.join ([L] ++ (if false then [S] else []) ++ (if true then [R] else []) ++ (if true then [V] else [])) = t2V := by
      simp [G.join, ht1R, ht2R, ht1V, ht2V]
    rw [this] at hcn
    exact hcn
  rw [← ht1R, ← ht2R, ← ht1V, ← hf4] at h_rs
  rw [← ht1R, ← hg2, ← hg3] at h_vr h_vv
  rw [← hg4] at h_vr
  rw [← hh4] at h_vv
  have hT := G.isT_canon hcn2
  have k9 := fun W (hW : AF W) => canon_ok hcn2 W hW
  have k9f := fun W (hW : AF W) => canon_no h_rs (by omega) W hW
  have k9g := fun W (hW : AF W) => canon_no h_vr (by omega) W hW
  have k9h := fun W (hW : AF W) => canon_no h_vv (by omega) W hW
  have k11 := fun W (hW : AF W) => is_any t2V (by omega) W hW
  rw [hT] at k11
  have ett : (t2V == t2V) = true := by simp
  have zL := sz_tx L
  have zSS := sz_tx S
  have zR := sz_tx R
  have zV := sz_tx V
  have ha := a0.toNat_lt
  have hb := b0.toNat_lt
  have hd := d0.toNat_lt
  obtain ⟨q1, hq1⟩ : ∃ q : Nat, q = a0.toNat / 26 := ⟨_, rfl⟩
  obtain ⟨q2, hq2⟩ : ∃ q : Nat, q = q1 % 2 := ⟨_, rfl⟩
  obtain ⟨q3, hq3⟩ : ∃ q : Nat, q = d0.toNat / 26 := ⟨_, rfl⟩
  obtain ⟨q4, hq4⟩ : ∃ q : Nat, q = q3 % 4 := ⟨_, rfl⟩
  have x1 : (a0.toNat : Int) / 26 = (q1 : Int) := by omega
  have x1t : (a0.toNat : Int).tdiv 26 = (q1 : Int) := by rw [Int.tdiv_eq_ediv_of_nonneg (by omega)]; omega
  have x2 : (q1 : Int) % 2 = (q2 : Int) := by omega
  have x2t : (q1 : Int).tmod 2 = (q2 : Int) := by rw [Int.tmod_eq_emod_of_nonneg (by omega)]; omega
  have x3 : (2 : Int) + (q2 : Int) = (kl : Int) := by have := hkl.out; omega
  have x4 : (d0.toNat : Int) / 26 = (q3 : Int) := by omega
  have x4t : (d0.toNat : Int).tdiv 26 = (q3 : Int) := by rw [Int.tdiv_eq_ediv_of_nonneg (by omega)]; omega
  have x5 : (q3 : Int) % 4 = (q4 : Int) := by omega
  have x5t : (q3 : Int).tmod 4 = (q4 : Int) := by rw [Int.tmod_eq_emod_of_nonneg (by omega)]; omega
  have x6 : (5 : Int) + (q4 : Int) = (kv : Int) := by have := hkv.out; omega
  have x7 : (b0.toNat : Int) / 2 = ((b0 / 2).toNat : Int) := by rw [UInt8.toNat_div]; rfl
  have x7t : (b0.toNat : Int).tdiv 2 = ((b0 / 2).toNat : Int) := by rw [Int.tdiv_eq_ediv_of_nonneg (by omega)]; exact x7
  have b1 : q1 ≤ 9 := by omega
  have b2 : q2 ≤ 1 := by omega
  have b3 : q3 ≤ 9 := by omega
  have b4 : q4 ≤ 3 := by omega
  generalize b0 / 2 = bh at *
  have hbh := bh.toNat_lt
  clear hcn hcn2 h_rs h_vr h_vv hT hkl hkv hq1 hq2 hq3 hq4 ht1R ht2R ht1V ht2V hf4 hg2 hg3 hg4 hh4 fs0 fs1 zS
  simp only [U8, tx, show (((97 : UInt8).toNat : Nat) : Int) = 97 from rfl, show (((65 : UInt8).toNat : Nat) : Int) = 65 from rfl] at hp1 hp2 hp3 hp4 hp5 k9 k9f k9g k9h k11
  unfold U8
  go_enter Tryd.func5, Tryd.ntmps5
  go_wp2_with fail
  refine hk.mono ?_
  rintro e w1 ⟨rfl, b1⟩
  have A1 := hide (HA.out.later b1)
  have B1 := hide b1
  clear HA hk b1
  go_wp2_with fail
  with_reducible refine (hp1 w1).mono ?_
  rintro e w2 ⟨rfl, b2⟩
  have A2 := hide (A1.out.later b2)
  have B2 := hide (nx B1.out b2)
  clear A1 B1 b2 hp1
  go_wp2_with fail
  with_reducible refine (hp2 w2).mono ?_
  rintro e w3 ⟨rfl, b3⟩
  have A3 := hide (A2.out.later b3)
  have B3 := hide (nx B2.out b3)
  clear A2 B2 b3 hp2
  go_wp2_with fail
  with_reducible refine (hp3 w3).mono ?_
  rintro e w4 ⟨rfl, b4⟩
  have A4 := hide (A3.out.later b4)
  have B4 := hide (nx B3.out b4)
  clear A3 B3 b4 hp3
  go_wp2_with fail
  with_reducible refine (hp4 w4).mono ?_
  rintro e w5 ⟨rfl, b5⟩
  have A5 := hide (A4.out.later b5)
  have B5 := hide (nx B4.out b5)
  clear A4 B4 b5 hp4
  go_wp2_with fail
  with_reducible refine (hp5 w5).mono ?_
  rintro e w6 ⟨rfl, b6⟩
  have A6 := hide (A5.out.later b6)
  have B6 := hide (nx B5.out b6)
  clear A5 B5 b6 hp5
  go_wp2_with fail
  with_reducible refine (k9 w6 A6.out).mono ?_
  rintro e w7 ⟨rfl, b7⟩
  have A7 := hide (A6.out.later b7)
  have B7 := hide (nx B6.out b7)
  clear A6 B6 b7 k9
  go_wp2_with fail
  with_reducible refine (k9f w7 A7.out).mono ?_
  rintro e w8 ⟨rfl, b8⟩
  have A8 := hide (A7.out.later b8)
  have B8 := hide (nx B7.out b8)
  clear A7 B7 b8 k9f
  go_wp2_with fail
  with_reducible refine (k9g w8 A8.out).mono ?_
  rintro e w9 ⟨rfl, b9⟩
  have A9 := hide (A8.out.later b9)
  have B9 := hide (nx B8.out b9)
  clear A8 B8 b9 k9g
  go_wp2_with fail
  with_reducible refine (k9h w9 A9.out).mono ?_
  rintro e w10 ⟨rfl, b10⟩
  have A10 := hide (A9.out.later b10)
  have B10 := hide (nx B9.out b10)
  clear A9 B9 b10 k9h
  go_wp2_with fail
  with_reducible refine (k11 w10 A10.out).mono ?_
  rintro e w11 ⟨rfl, b11⟩
  have A11 := hide (A10.out.later b11)
  have B11 := hide (nx B10.out b11)
  clear A10 B10 b11 k11
  go_wp2
  go_ret
  exact ⟨rfl, B11.out⟩
set_option maxRecDepth 100000 in
set_option maxHeartbeats 1000000 in
theorem built_100 (a0 b0 c0 d0 : UInt8) (w : World) (hA : AF w) : Calls Tryd.prog 5 #[U8 a0, U8 b0, U8 c0, U8 d0, .bool true, .bool false, .bool false] w fun e W' => e = .returned (.bool true) ∧ Below w.heap.size w W' := by
  obtain ⟨L, S0, S1, R, V, kl, kv, hkl, hkv, kl3, kv8, hp1, hp2, hp3, hp4, hp5, fl3, fs0, fs1, fr2, fv8, hcn, h_rs, h_vr, h_vv⟩ := built_facts a0 b0 c0 d0 true false false
  have hk := known_any w hA
  have HA := hide hA
  clear hA
  have eS := add_tx S0 S1
  have zS : (S0 ++ S1).length = 4 := by rw [List.length_append, fs0, fs1]
  have zz0 := sz_tx S0
  have zz1 := sz_tx S1
  have fs0' : S0.length ≤ 1 := by omega
  have fs1' : S1.length ≤ 3 := by omega
  have zS' : (S0 ++ S1).length ≤ 4 := by omega
  generalize S0 ++ S1 = S at *
  obtain ⟨t1S, ht1S⟩ : ∃ q, q = L ++ [45] := ⟨_, rfl⟩
  have et1S := add_tx L [45]
  rw [← ht1S] at et1S
  have lt1S : t1S.length ≤ 4 := by rw [ht1S, List.length_append]; simp only [List.length_cons, List.length_nil]; omega
  have zt1S := sz_tx t1S
  obtain ⟨t2S, ht2S⟩ : ∃ q, q = t1S ++ S := ⟨_, rfl⟩
  have et2S := add_tx t1S S
  rw [← ht2S] at et2S
  have lt2S : t2S.length ≤ 8 := by rw [ht2S, List.length_append]; omega
  have zt2S := sz_tx t2S
  obtain ⟨f2, hf2⟩ : ∃ q, q = t1S ++ R := ⟨_, rfl⟩
  have ef2 := add_tx t1S R
  rw [← hf2] at ef2
  have lf2 : f2.length ≤ 6 := by rw [hf2, List.length_append]; omega
  have zf2 := sz_tx f2
  obtain ⟨f3, hf3⟩ : ∃ q, q = f2 ++ [45] := ⟨_, rfl⟩
  have ef3 := add_tx f2 [45]
  rw [← hf3] at ef3
  have lf3 : f3.length ≤ 7 := by rw [hf3, List.length_append]; simp only [List.length_cons, List.length_nil]; omega
  have zf3 := sz_tx f3
  obtain ⟨f4, hf4⟩ : ∃ q, q = f3 ++ S := ⟨_, rfl⟩
  have ef4 := add_tx f3 S
  rw [← hf4] at ef4
  have lf4 : f4.length ≤ 11 := by rw [hf4, List.length_append]; omega
  have zf4 := sz_tx f4
  obtain ⟨g2, hg2⟩ : ∃ q, q = t1S ++ V := ⟨_, rfl⟩
  have eg2 := add_tx t1S V
  rw [← hg2] at eg2
  have lg2 : g2.length ≤ 12 := by rw [hg2, List.length_append]; omega
  have zg2 := sz_tx g2
  obtain ⟨g3, hg3⟩ : ∃ q, q = g2 ++ [45] := ⟨_, rfl⟩
  have eg3 := add_tx g2 [45]
  rw [← hg3] at eg3
  have lg3 : g3.length ≤ 13 := by rw [hg3, List.length_append]; simp only [List.length_cons, List.length_nil]; omega
  have zg3 := sz_tx g3
  obtain ⟨g4, hg4⟩ : ∃ q, q = g3 ++ R := ⟨_, rfl⟩
  have eg4 := add_tx g3 R
  rw [← hg4] at eg4
  have lg4 : g4.length ≤ 15 := by rw [hg4, List.length_append]; omega
  have zg4 := sz_tx g4
  obtain ⟨h4, hh4⟩ : ∃ q, q = g3 ++ V := ⟨_, rfl⟩
  have eh4 := add_tx g3 V
  rw [← hh4] at eh4
  have lh4 : h4.length ≤ 21 := by rw [hh4, List.length_append]; omega
  have zh4 := sz_tx h4
  have hcn2 : G.canon t2S = some t2S := by
    have : G.join ([L] ++ (if true then [S] else []) ++ (if false then [R] else []) ++ (if false then [V] else [])) = t2S := by
      simp [G.join, ht1S, ht2S]
    rw [this] at hcn
    exact hcn
  rw [← ht1S, ← hf2, ← hf3, ← hf4] at h_rs
  rw [← ht1S, ← hg2, ← hg3] at h_vr h_vv
  rw [← hg4] at h_vr
  rw [← hh4] at h_vv
  have hT := G.isT_canon hcn2
  have k9 := fun W (hW : AF W) => canon_ok hcn2 W hW
  have k9f := fun W (hW : AF W) => canon_no h_rs (by omega) W hW
  have k9g := fun W (hW : AF W) => canon_no h_vr (by omega) W hW
  have k9h := fun W (hW : AF W) => canon_no h_vv (by omega) W hW
  have k11 := fun W (hW : AF W) => is_any t2S (by omega) W hW
  rw [hT] at k11
  have ett : (t2S == t2S) = true := by simp
  have zL := sz_tx L
  have zSS := sz_tx S
  have zR := sz_tx R
  have zV := sz_tx V
  have ha := a0.toNat_lt
  have hb := b0.toNat_lt
  have hd := d0.toNat_lt
  obtain ⟨q1, hq1⟩ : ∃ q : Nat, q = a0.toNat / 26 := ⟨_, rfl⟩
  obtain ⟨q2, hq2⟩ : ∃ q : Nat, q = q1 % 2 := ⟨_, rfl⟩
  obtain ⟨q3, hq3⟩ : ∃ q : Nat, q = d0.toNat / 26 := ⟨_, rfl⟩
  obtain ⟨q4, hq4⟩ : ∃ q : Nat, q = q3 % 4 := ⟨_, rfl⟩
  have x1 : (a0.toNat : Int) / 26 = (q1 : Int) := by omega
  have x1t : (a0.toNat : Int).tdiv 26 = (q1 : Int) := by rw [Int.tdiv_eq_ediv_of_nonneg (by omega)]; omega
  have x2 : (q1 : Int) % 2 = (q2 : Int) := by omega
  have x2t : (q1 : Int).tmod 2 = (q2 : Int) := by rw [Int.tmod_eq_emod_of_nonneg (by omega)]; omega
  have x3 : (2 : Int) + (q2 : Int) = (kl : Int) := by have := hkl.out; omega
  have x4 : (d0.toNat : Int) / 26 = (q3 : Int) := by omega
  have x4t : (d0.toNat : Int).tdiv 26 = (q3 : Int) := by rw [Int.tdiv_eq_ediv_of_nonneg (by omega)]; omega
  have x5 : (q3 : Int) % 4 = (q4 : Int) := by omega
  have x5t : (q3 : Int).tmod 4 = (q4 : Int) := by rw [Int.tmod_eq_emod_of_nonneg (by omega)]; omega
  have x6 : (5 : Int) + (q4 : Int) = (kv : Int) := by have := hkv.out; omega
  have x7 : (b0.toNat : Int) / 2 = ((b0 / 2).toNat : Int) := by rw [UInt8.toNat_div]; rfl
  have x7t : (b0.toNat : Int).tdiv 2 = ((b0 / 2).toNat : Int) := by rw [Int.tdiv_eq_ediv_of_nonneg (by omega)]; exact x7
  have b1 : q1 ≤ 9 := by omega
  have b2 : q2 ≤ 1 := by omega
  have b3 : q3 ≤ 9 := by omega
  have b4 : q4 ≤ 3 := by omega
  generalize b0 / 2 = bh at *
  have hbh := bh.toNat_lt
  clear hcn hcn2 h_rs h_vr h_vv hT hkl hkv hq1 hq2 hq3 hq4 ht1S ht2S hf2 hf3 hf4 hg2 hg3 hg4 hh4 fs0 fs1 zS
  simp only [U8, tx, show (((97 : UInt8).toNat : Nat) : Int) = 97 from rfl, show (((65 : UInt8).toNat : Nat) : Int) = 65 from rfl] at hp1 hp2 hp3 hp4 hp5 k9 k9f k9g k9h k11
  unfold U8
  go_enter Tryd.func5, Tryd.ntmps5
  go_wp2_with fail
  refine hk.mono ?_
  rintro e w1 ⟨rfl, b1⟩
  have A1 := hide (HA.out.later b1)
  have B1 := hide b1
  clear HA hk b1
  go_wp2_with fail
  with_reducible refine (hp1 w1).mono ?_
  rintro e w2 ⟨rfl, b2⟩
  have A2 := hide (A1.out.later b2)
  have B2 := hide (nx B1.out b2)
  clear A1 B1 b2 hp1
  go_wp2_with fail
  with_reducible refine (hp2 w2).mono ?_
  rintro e w3 ⟨rfl, b3⟩
  have A3 := hide (A2.out.later b3)
  have B3 := hide (nx B2.out b3)
  clear A2 B2 b3 hp2
  go_wp2_with fail
  with_reducible refine (hp3 w3).mono ?_
  rintro e w4 ⟨rfl, b4⟩
  have A4 := hide (A3.out.later b4)
  have B4 := hide (nx B3.out b4)
  clear A3 B3 b4 hp3
  go_wp2_with fail
  with_reducible refine (hp4 w4).mono ?_
  rintro e w5 ⟨rfl, b5⟩
  have A5 := hide (A4.out.later b5)
  have B5 := hide (nx B4.out b5)
  clear A4 B4 b5 hp4
  go_wp2_with fail
  with_reducible refine (hp5 w5).mono ?_
  rintro e w6 ⟨rfl, b6⟩
  have A6 := hide (A5.out.later b6)
  have B6 := hide (nx B5.out b6)
  clear A5 B5 b6 hp5
  go_wp2_with fail
  with_reducible refine (k9 w6 A6.out).mono ?_
  rintro e w7 ⟨rfl, b7⟩
  have A7 := hide (A6.out.later b7)
  have B7 := hide (nx B6.out b7)
  clear A6 B6 b7 k9
  go_wp2_with fail
  with_reducible refine (k9f w7 A7.out).mono ?_
  rintro e w8 ⟨rfl, b8⟩
  have A8 := hide (A7.out.later b8)
  have B8 := hide (nx B7.out b8)
  clear A7 B7 b8 k9f
  go_wp2_with fail
  with_reducible refine (k9g w8 A8.out).mono ?_
  rintro e w9 ⟨rfl, b9⟩
  have A9 := hide (A8.out.later b9)
  have B9 := hide (nx B8.out b9)
  clear A8 B8 b9 k9g
  go_wp2_with fail
  with_reducible refine (k9h w9 A9.out).mono ?_
  rintro e w10 ⟨rfl, b10⟩
  have A10 := hide (A9.out.later b10)
  have B10 := hide (nx B9.out b10)
  clear A9 B9 b10 k9h
  go_wp2_with fail
  with_reducible refine (k11 w10 A10.out).mono ?_
  rintro e w11 ⟨rfl, b11⟩
  have A11 := hide (A10.out.later b11)
  have B11 := hide (nx B10.out b11)
  clear A10 B10 b11 k11
  go_wp2
  go_ret
  exact ⟨rfl, B11.out⟩
set_option maxRecDepth 100000 in
set_option maxHeartbeats 1000000 in
theorem built_101 (a0 b0 c0 d0 : UInt8) (w : World) (hA : AF w) : Calls Tryd.prog 5 #[U8 a0, U8 b0, U8 c0, U8 d0, .bool true, .bool false, .bool true] w fun e W' => e = .returned (.bool true) ∧ Below w.heap.size w W' := by
  obtain ⟨L, S0, S1, R, V, kl, kv, hkl, hkv, kl3, kv8, hp1, hp2, hp3, hp4, hp5, fl3, fs0, fs1, fr2, fv8, hcn, h_rs, h_vr, h_vv⟩ := built_facts a0 b0 c0 d0 true false true
  have hk := known_any w hA
  have HA := hide hA
  clear hA
  have eS := add_tx S0 S1
  have zS : (S0 ++ S1).length = 4 := by rw [List.length_append, fs0, fs1]
  have zz0 := sz_tx S0
  have zz1 := sz_tx S1
  have fs0' : S0.length ≤ 1 := by omega
  have fs1' : S1.length ≤ 3 := by omega
  have zS' : (S0 ++ S1).length ≤ 4 := by omega
  generalize S0 ++ S1 = S at *
  obtain ⟨t1S, ht1S⟩ : ∃ q, q = L ++ [45] := ⟨_, rfl⟩
  have et1S := add_tx L [45]
  rw [← ht1S] at et1S
  have lt1S : t1S.length ≤ 4 := by rw [ht1S, List.length_append]; simp only [List.length_cons, List.length_nil]; omega
  have zt1S := sz_tx t1S
  obtain ⟨t2S, ht2S⟩ : ∃ q, q = t1S ++ S := ⟨_, rfl⟩
  have et2S := add_tx t1S S
  rw [← ht2S] at et2S
  have lt2S : t2S.length ≤ 8 := by rw [ht2S, List.length_append]; omega
  have zt2S := sz_tx t2S
  obtain ⟨t1V, ht1V⟩ : ∃ q, q = t2S ++ [45] := ⟨_, rfl⟩
  have et1V := add_tx t2S [45]
  rw [← ht1V] at et1V
  have lt1V : t1V.length ≤ 9 := by rw [ht1V, List.length_append]; simp only [List.length_cons, List.length_nil]; omega
  have zt1V := sz_tx t1V
  obtain ⟨t2V, ht2V⟩ : ∃ q, q = t1V ++ V := ⟨_, rfl⟩
  have et2V := add_tx t1V V
  rw [← ht2V] at et2V
  have lt2V : t2V.length ≤ 17 := by rw [ht2V, List.length_append]; omega
  have zt2V := sz_tx t2V
  obtain ⟨f2, hf2⟩ : ∃ q, q = t1S ++ R := ⟨_, rfl⟩
  have ef2 := add_tx t1S R
  rw [← hf2] at ef2
  have lf2 : f2.length ≤ 6 := by rw [hf2, List.length_append]; omega
  have zf2 := sz_tx f2
  obtain ⟨f3, hf3⟩ : ∃ q, q = f2 ++ [45] := ⟨_, rfl⟩
  have ef3 := add_tx f2 [45]
  rw [← hf3] at ef3
  have lf3 : f3.length ≤ 7 := by rw [hf3, List.length_append]; simp only [List.length_cons, List.length_nil]; omega
  have zf3 := sz_tx f3
  obtain ⟨f4, hf4⟩ : ∃ q, q = f3 ++ S := ⟨_, rfl⟩
  have ef4 := add_tx f3 S
  rw [← hf4] at ef4
  have lf4 : f4.length ≤ 11 := by rw [hf4, List.length_append]; omega
  have zf4 := sz_tx f4
  obtain ⟨g2, hg2⟩ : ∃ q, q = t1S ++ V := ⟨_, rfl⟩
  have eg2 := add_tx t1S V
  rw [← hg2] at eg2
  have lg2 : g2.length ≤ 12 := by rw [hg2, List.length_append]; omega
  have zg2 := sz_tx g2
  obtain ⟨g3, hg3⟩ : ∃ q, q = g2 ++ [45] := ⟨_, rfl⟩
  have eg3 := add_tx g2 [45]
  rw [← hg3] at eg3
  have lg3 : g3.length ≤ 13 := by rw [hg3, List.length_append]; simp only [List.length_cons, List.length_nil]; omega
  have zg3 := sz_tx g3
  obtain ⟨g4, hg4⟩ : ∃ q, q = g3 ++ R := ⟨_, rfl⟩
  have eg4 := add_tx g3 R
  rw [← hg4] at eg4
  have lg4 : g4.length ≤ 15 := by rw [hg4, List.length_append]; omega
  have zg4 := sz_tx g4
  obtain ⟨h4, hh4⟩ : ∃ q, q = g3 ++ V := ⟨_, rfl⟩
  have eh4 := add_tx g3 V
  rw [← hh4] at eh4
  have lh4 : h4.length ≤ 21 := by rw [hh4, List.length_append]; omega
  have zh4 := sz_tx h4
  have hcn2 : G.canon t2V = some t2V := by
    have : G.join ([L] ++ (if true then [S] else []) ++ (if false then [R] else []) ++ (if true then [V] else [])) = t2V := by
      simp [G.join, ht1S, ht2S, ht1V, ht2V]
    rw [this] at hcn
    exact hcn
  rw [← ht1S, ← hf2, ← hf3, ← hf4] at h_rs
  rw [← ht1S, ← hg2, ← hg3] at h_vr h_vv
  rw [← hg4] at h_vr
  rw [← hh4] at h_vv
  have hT := G.isT_canon hcn2
  have k9 := fun W (hW : AF W) => canon_ok hcn2 W hW
  have k9f := fun W (hW : AF W) => canon_no h_rs (by omega) W hW
  have k9g := fun W (hW : AF W) => canon_no h_vr (by omega) W hW
  have k9h := fun W (hW : AF W) => canon_no h_vv (by omega) W hW
  have k11 := fun W (hW : AF W) => is_any t2V (by omega) W hW
  rw [hT] at k11
  have ett : (t2V == t2V) = true := by simp
  have zL := sz_tx L
  have zSS := sz_tx S
  have zR := sz_tx R
  have zV := sz_tx V
  have ha := a0.toNat_lt
  have hb := b0.toNat_lt
  have hd := d0.toNat_lt
  obtain ⟨q1, hq1⟩ : ∃ q : Nat, q = a0.toNat / 26 := ⟨_, rfl⟩
  obtain ⟨q2, hq2⟩ : ∃ q : Nat, q = q1 % 2 := ⟨_, rfl⟩
  obtain ⟨q3, hq3⟩ : ∃ q : Nat, q = d0.toNat / 26 := ⟨_, rfl⟩
  obtain ⟨q4, hq4⟩ : ∃ q : Nat, q = q3 % 4 := ⟨_, rfl⟩
  have x1 : (a0.toNat : Int) / 26 = (q1 : Int) := by omega
  have x1t : (a0.toNat : Int).tdiv 26 = (q1 : Int) := by rw [Int.tdiv_eq_ediv_of_nonneg (by omega)]; omega
  have x2 : (q1 : Int) % 2 = (q2 : Int) := by omega
  have x2t : (q1 : Int).tmod 2 = (q2 : Int) := by rw [Int.tmod_eq_emod_of_nonneg (by omega)]; omega
  have x3 : (2 : Int) + (q2 : Int) = (kl : Int) := by have := hkl.out; omega
  have x4 : (d0.toNat : Int) / 26 = (q3 : Int) := by omega
  have x4t : (d0.toNat : Int).tdiv 26 = (q3 : Int) := by rw [Int.tdiv_eq_ediv_of_nonneg (by omega)]; omega
  have x5 : (q3 : Int) % 4 = (q4 : Int) := by omega
  have x5t : (q3 : Int).tmod 4 = (q4 : Int) := by rw [Int.tmod_eq_emod_of_nonneg (by omega)]; omega
  have x6 : (5 : Int) + (q4 : Int) = (kv : Int) := by have := hkv.out; omega
  have x7 : (b0.toNat : Int) / 2 = ((b0 / 2).toNat : Int) := by rw [UInt8.toNat_div]; rfl
  have x7t : (b0.toNat : Int).tdiv 2 = ((b0 / 2).toNat : Int) := by rw [Int.tdiv_eq_ediv_of_nonneg (by omega)]; exact x7
  have b1 : q1 ≤ 9 := by omega
  have b2 : q2 ≤ 1 := by omega
  have b3 : q3 ≤ 9 := by omega
  have b4 : q4 ≤ 3 := by omega
  generalize b0 / 2 = bh at *
  have hbh := bh.toNat_lt
  clear hcn hcn2 h_rs h_vr h_vv hT hkl hkv hq1 hq2 hq3 hq4 ht1S ht2S ht1V ht2V hf2 hf3 hf4 hg2 hg3 hg4 hh4 fs0 fs1 zS
  simp only [U8, tx, show (((97 : UInt8).toNat : Nat) : Int) = 97 from rfl, show (((65 : UInt8).toNat : Nat) : Int) = 65 from rfl] at hp1 hp2 hp3 hp4 hp5 k9 k9f k9g k9h k11
  unfold U8
  go_enter Tryd.func5, Tryd.ntmps5
  go_wp2_with fail
  refine hk.mono ?_
  rintro e w1 ⟨rfl, b1⟩
  have A1 := hide (HA.out.later b1)
  have B1 := hide b1
  clear HA hk b1
  go_wp2_with fail
  with_reducible refine (hp1 w1).mono ?_
  rintro e w2 ⟨rfl, b2⟩
  have A2 := hide (A1.out.later b2)
  have B2 := hide (nx B1.out b2)
  clear A1 B1 b2 hp1
  go_wp2_with fail
  with_reducible refine (hp2 w2).mono ?_
  rintro e w3 ⟨rfl, b3⟩
  have A3 := hide (A2.out.later b3)
  have B3 := hide (nx B2.out b3)
  clear A2 B2 b3 hp2
  go_wp2_with fail
  with_reducible refine (hp3 w3).mono ?_
  rintro e w4 ⟨rfl, b4⟩
  have A4 := hide (A3.out.later b4)
  have B4 := hide (nx B3.out b4)
  clear A3 B3 b4 hp3
  go_wp2_with fail
  with_reducible refine (hp4 w4).mono ?_
  rintro e w5 ⟨rfl, b5⟩
  have A5 := hide (A4.out.later b5)
  have B5 := hide (nx B4.out b5)
  clear A4 B4 b5 hp4
  go_wp2_with fail
  with_reducible refine (hp5 w5).mono ?_
  rintro e w6 ⟨rfl, b6⟩
  have A6 := hide (A5.out.later b6)
  have B6 := hide (nx B5.out b6)
  clear A5 B5 b6 hp5
  go_wp2_with fail
  with_reducible refine (k9 w6 A6.out).mono ?_
  rintro e w7 ⟨rfl, b7⟩
  have A7 := hide (A6.out.later b7)
  have B7 := hide (nx B6.out b7)
  clear A6 B6 b7 k9
  go_wp2_with fail
  with_reducible refine (k9f w7 A7.out).mono ?_
  rintro e w8 ⟨rfl, b8⟩
  have A8 := hide (A7.out.later b8)
  have B8 := hide (nx B7.out b8)
  clear A7 B7 b8 k9f
  go_wp2_with fail
  with_reducible refine (k9g w8 A8.out).mono ?_
  rintro e w9 ⟨rfl, b9⟩
  have A9 := hide (A8.out.later b9)
  have B9 := hide (nx B8.out b9)
  clear A8 B8 b9 k9g
  go_wp2_with fail
  with_reducible refine (k9h w9 A9.out).mono ?_
  rintro e w10 ⟨rfl, b10⟩
  have A10 := hide (A9.out.later b10)
  have B10 := hide (nx B9.out b10)
  clear A9 B9 b10 k9h
  go_wp2_with fail
  with_reducible refine (k11 w10 A10.out).mono ?_
  rintro e w11 ⟨rfl, b11⟩
  have A11 := hide (A10.out.later b11)
  have B11 := hide (nx B10.out b11)
  clear A10 B10 b11 k11
  go_wp2
  go_ret
  exact ⟨rfl, B11.out⟩
set_option maxRecDepth 100000 in
set_option maxHeartbeats 1000000 in
theorem built_110 (a0 b0 c0 d0 : UInt8) (w : World) (hA : AF w) : Calls Tryd.prog 5 #[U8 a0, U8 b0, U8 c0, U8 d0, .bool true, .bool true, .bool false] w fun e W' => e = .returned (.bool true) ∧ Below w.heap.size w W' := by
  obtain ⟨L, S0, S1, R, V, kl, kv, hkl, hkv, kl3, kv8, hp1, hp2, hp3, hp4, hp5, fl3, fs0, fs1, fr2, fv8, hcn, h_rs, h_vr, h_vv⟩ := built_facts a0 b0 c0 d0 true true false
  have hk := known_any w hA
  have HA := hide hA
  clear hA
  have eS := add_tx S0 S1
  have zS : (S0 ++ S1).length = 4 := by rw [List.length_append, fs0, fs1]
  have zz0 := sz_tx S0
  have zz1 := sz_tx S1
  have fs0' : S0.length ≤ 1 := by omega
  have fs1' : S1.length ≤ 3 := by omega
  have zS' : (S0 ++ S1).length ≤ 4 := by omega
  generalize S0 ++ S1 = S at *
  obtain ⟨t1S, ht1S⟩ : ∃ q, q = L ++ [45] := ⟨_, rfl⟩
  have et1S := add_tx L [45]
  rw [← ht1S] at et1S
  have lt1S : t1S.length ≤ 4 := by rw [ht1S, List.length_append]; simp only [List.length_cons, List.length_nil]; omega
  have zt1S := sz_tx t1S
  obtain ⟨t2S, ht2S⟩ : ∃ q, q = t1S ++ S := ⟨_, rfl⟩
  have et2S := add_tx t1S S
  rw [← ht2S] at et2S
  have lt2S : t2S.length ≤ 8 := by rw [ht2S, List.length_append]; omega
  have zt2S := sz_tx t2S
  obtain ⟨t1R, ht1R⟩ : ∃ q, q = t2S ++ [45] := ⟨_, rfl⟩
  have et1R := add_tx t2S [45]
  rw [← ht1R] at et1R
  have lt1R : t1R.length ≤ 9 := by rw [ht1R, List.length_append]; simp only [List.length_cons, List.length_nil]; omega
  have zt1R := sz_tx t1R
  obtain ⟨t2R, ht2R⟩ : ∃ q, q = t1R ++ R := ⟨_, rfl⟩
  have et2R := add_tx t1R R
  rw [← ht2R] at et2R
  have lt2R : t2R.length ≤ 11 := by rw [ht2R, List.length_append]; omega
  have zt2R := sz_tx t2R
  obtain ⟨f2, hf2⟩ : ∃ q, q = t1S ++ R := ⟨_, rfl⟩
  have ef2 := add_tx t1S R
  rw [← hf2] at ef2
  have lf2 : f2.length ≤ 6 := by rw [hf2, List.length_append]; omega
  have zf2 := sz_tx f2
  obtain ⟨f3, hf3⟩ : ∃ q, q = f2 ++ [45] := ⟨_, rfl⟩
  have ef3 := add_tx f2 [45]
  rw [← hf3] at ef3
  have lf3 : f3.length ≤ 7 := by rw [hf3, List.length_append]; simp only [List.length_cons, List.length_nil]; omega
  have zf3 := sz_tx f3
  obtain ⟨f4, hf4⟩ : ∃ q, q = f3 ++ S := ⟨_, rfl⟩
  have ef4 := add_tx f3 S
  rw [← hf4] at ef4
  have lf4 : f4.length ≤ 11 := by rw [hf4, List.length_append]; omega
  have zf4 := sz_tx f4
  obtain ⟨g2, hg2⟩ : ∃ q, q = t1S ++ V := ⟨_, rfl⟩
  have eg2 := add_tx t1S V
  rw [← hg2] at eg2
  have lg2 : g2.length ≤ 12 := by rw [hg2, List.length_append]; omega
  have zg2 := sz_tx g2
  obtain ⟨g3, hg3⟩ : ∃ q, q = g2 ++ [45] := ⟨_, rfl⟩
  have eg3 := add_tx g2 [45]
  rw [← hg3] at eg3
  have lg3 : g3.length ≤ 13 := by rw [hg3, List.length_append]; simp only [List.length_cons, List.length_nil]; omega
  have zg3 := sz_tx g3
  obtain ⟨g4, hg4⟩ : ∃ q, q = g3 ++ R := ⟨_, rfl⟩
  have eg4 := add_tx g3 R
  rw [← hg4] at eg4
  have lg4 : g4.length ≤ 15 := by rw [hg4, List.length_append]; omega
  have zg4 := sz_tx g4
  obtain ⟨h4, hh4⟩ : ∃ q, q = g3 ++ V := ⟨_, rfl⟩
  have eh4 := add_tx g3 V
  rw [← hh4] at eh4
  have lh4 : h4.length ≤ 21 := by rw [hh4, List.length_append]; omega
  have zh4 := sz_tx h4
  have hcn2 : G.canon t2R = some t2R := by
    have : G.join ([L] ++ (if true then [S] else []) ++ (if true then [R] else []) ++ (if false then [V] else [])) = t2R := by
      simp [G.join, ht1S, ht2S, ht1R, ht2R]
    rw [this] at hcn
    exact hcn
  rw [← ht1S, ← hf2, ← hf3, ← hf4] at h_rs
  rw [← ht1S, ← hg2, ← hg3] at h_vr h_vv
  rw [← hg4] at h_vr
  rw [← hh4] at h_vv
  have hT := G.isT_canon hcn2
  have k9 := fun W (hW : AF W) => canon_ok hcn2 W hW
  have k9f := fun W (hW : AF W) => canon_no h_rs (by omega) W hW
  have k9g := fun W (hW : AF W) => canon_no h_vr (by omega) W hW
  have k9h := fun W (hW : AF W) => canon_no h_vv (by omega) W hW
  have k11 := fun W (hW : AF W) => is_any t2R (by omega) W hW
  rw [hT] at k11
  have ett : (t2R == t2R) = true := by simp
  have zL := sz_tx L
  have zSS := sz_tx S
  have zR := sz_tx R
  have zV := sz_tx V
  have ha := a0.toNat_lt
  have hb := b0.toNat_lt
  have hd := d0.toNat_lt
  obtain ⟨q1, hq1⟩ : ∃ q : Nat, q = a0.toNat / 26 := ⟨_, rfl⟩
  obtain ⟨q2, hq2⟩ : ∃ q : Nat, q = q1 % 2 := ⟨_, rfl⟩
  obtain ⟨q3, hq3⟩ : ∃ q : Nat, q = d0.toNat / 26 := ⟨_, rfl⟩
  obtain ⟨q4, hq4⟩ : ∃ q : Nat, q = q3 % 4 := ⟨_, rfl⟩
  have x1 : (a0.toNat : Int) / 26 = (q1 : Int) := by omega
  have x1t : (a0.toNat : Int).tdiv 26 = (q1 : Int) := by rw [Int.tdiv_eq_ediv_of_nonneg (by omega)]; omega
  have x2 : (q1 : Int) % 2 = (q2 : Int) := by omega
  have x2t : (q1 : Int).tmod 2 = (q2 : Int) := by rw [Int.tmod_eq_emod_of_nonneg (by omega)]; omega
  have x3 : (2 : Int) + (q2 : Int) = (kl : Int) := by have := hkl.out; omega
  have x4 : (d0.toNat : Int) / 26 = (q3 : Int) := by omega
  have x4t : (d0.toNat : Int).tdiv 26 = (q3 : Int) := by rw [Int.tdiv_eq_ediv_of_nonneg (by omega)]; omega
  have x5 : (q3 : Int) % 4 = (q4 : Int) := by omega
  have x5t : (q3 : Int).tmod 4 = (q4 : Int) := by rw [Int.tmod_eq_emod_of_nonneg (by omega)]; omega
  have x6 : (5 : Int) + (q4 : Int) = (kv : Int) := by have := hkv.out; omega
  have x7 : (b0.toNat : Int) / 2 = ((b0 / 2).toNat : Int) := by rw [UInt8.toNat_div]; rfl
  have x7t : (b0.toNat : Int).tdiv 2 = ((b0 / 2).toNat : Int) := by rw [Int.tdiv_eq_ediv_of_nonneg (by omega)]; exact x7
  have b1 : q1 ≤ 9 := by omega
  have b2 : q2 ≤ 1 := by omega
  have b3 : q3 ≤ 9 := by omega
  have b4 : q4 ≤ 3 := by omega
  generalize b0 / 2 = bh at *
  have hbh := bh.toNat_lt
  clear hcn hcn2 h_rs h_vr h_vv hT hkl hkv hq1 hq2 hq3 hq4 ht1S ht2S ht1R ht2R hf2 hf3 hf4 hg2 hg3 hg4 hh4 fs0 fs1 zS
  simp only [U8, tx, show (((97 : UInt8).toNat : Nat) : Int) = 97 from rfl, show (((65 : UInt8).toNat : Nat) : Int) = 65 from rfl] at hp1 hp2 hp3 hp4 hp5 k9 k9f k9g k9h k11
  unfold U8
  go_enter Tryd.func5, Tryd.ntmps5
  go_wp2_with fail
  refine hk.mono ?_
  rintro e w1 ⟨rfl, b1⟩
  have A1 := hide (HA.out.later b1)
  have B1 := hide b1
  clear HA hk b1
  go_wp2_with fail
  with_reducible refine (hp1 w1).mono ?_
  rintro e w2 ⟨rfl, b2⟩
  have A2 := hide (A1.out.later b2)
  have B2 := hide (nx B1.out b2)
  clear A1 B1 b2 hp1
  go_wp2_with fail
  with_reducible refine (hp2 w2).mono ?_
  rintro e w3 ⟨rfl, b3⟩
  have A3 := hide (A2.out.later b3)
  have B3 := hide (nx B2.out b3)
  clear A2 B2 b3 hp2
  go_wp2_with fail
  with_reducible refine (hp3 w3).mono ?_
  rintro e w4 ⟨rfl, b4⟩
  have A4 := hide (A3.out.later b4)
  have B4 := hide (nx B3.out b4)
  clear A3 B3 b4 hp3
  go_wp2_with fail
  with_reducible refine (hp4 w4).mono ?_
  rintro e w5 ⟨rfl, b5⟩
  have A5 := hide (A4.out.later b5)
  have B5 := hide (nx B4.out b5)
  clear A4 B4 b5 hp4
  go_wp2_with fail
  with_reducible refine (hp5 w5).mono ?_
  rintro e w6 ⟨rfl, b6⟩
  have A6 := hide (A5.out.later b6)
  have B6 := hide (nx B5.out b6)
  clear A5 B5 b6 hp5
  go_wp2_with fail
  with_reducible refine (k9 w6 A6.out).mono ?_
  rintro e w7 ⟨rfl, b7⟩
  have A7 := hide (A6.out.later b7)
  have B7 := hide (nx B6.out b7)
  clear A6 B6 b7 k9
  go_wp2_with fail
  with_reducible refine (k9f w7 A7.out).mono ?_
  rintro e w8 ⟨rfl, b8⟩
  have A8 := hide (A7.out.later b8)
  have B8 := hide (nx B7.out b8)
  clear A7 B7 b8 k9f
  go_wp2_with fail
  with_reducible refine (k9g w8 A8.out).mono ?_
  rintro e w9 ⟨rfl, b9⟩
  have A9 := hide (A8.out.later b9)
  have B9 := hide (nx B8.out b9)
  clear A8 B8 b9 k9g
  go_wp2_with fail
  with_reducible refine (k9h w9 A9.out).mono ?_
  rintro e w10 ⟨rfl, b10⟩
  have A10 := hide (A9.out.later b10)
  have B10 := hide (nx B9.out b10)
  clear A9 B9 b10 k9h
  go_wp2_with fail
  with_reducible refine (k11 w10 A10.out).mono ?_
  rintro e w11 ⟨rfl, b11⟩
  have A11 := hide (A10.out.later b11)
  have B11 := hide (nx B10.out b11)
  clear A10 B10 b11 k11
  go_wp2
  go_ret
  exact ⟨rfl, B11.out⟩
set_option maxRecDepth 100000 in
set_option maxHeartbeats 1000000 in
theorem built_111 (a0 b0 c0 d0 : UInt8) (w : World) (hA : AF w) : Calls Tryd.prog 5 #[U8 a0, U8 b0, U8 c0, U8 d0, .bool true, .bool true, .bool true] w fun e W' => e = .returned (.bool true) ∧ Below w.heap.size w W' := by
  obtain ⟨L, S0, S1, R, V, kl, kv, hkl, hkv, kl3, kv8, hp1, hp2, hp3, hp4, hp5, fl3, fs0, fs1, fr2, fv8, hcn, h_rs, h_vr, h_vv⟩ := built_facts a0 b0 c0 d0 true true true
  have hk := known_any w hA
  have HA := hide hA
  clear hA
  have eS := add_tx S0 S1
  have zS : (S0 ++ S1).length = 4 := by rw [List.length_append, fs0, fs1]
  have zz0 := sz_tx S0
  have zz1 := sz_tx S1
  have fs0' : S0.length ≤ 1 := by omega
  have fs1' : S1.length ≤ 3 := by omega
  have zS' : (S0 ++ S1).length ≤ 4 := by omega
  generalize S0 ++ S1 = S at *
  obtain ⟨t1S, ht1S⟩ : ∃ q, q = L ++ [45] := ⟨_, rfl⟩
  have et1S := add_tx L [45]
  rw [← ht1S] at et1S
  have lt1S : t1S.length ≤ 4 := by rw [ht1S, List.length_append]; simp only [List.length_cons, List.length_nil]; omega
  have zt1S := sz_tx t1S
  obtain ⟨t2S, ht2S⟩ : ∃ q, q = t1S ++ S := ⟨_, rfl⟩
  have et2S := add_tx t1S S
  rw [← ht2S] at et2S
  have lt2S : t2S.length ≤ 8 := by rw [ht2S, List.length_append]; omega
  have zt2S := sz_tx t2S
  obtain ⟨t1R, ht1R⟩ : ∃ q, q = t2S ++ [45] := ⟨_, rfl⟩
  have et1R := add_tx t2S [45]
  rw [← ht1R] at et1R
  have lt1R : t1R.length ≤ 9 := by rw [ht1R, List.length_append]; simp only [List.length_cons, List.length_nil]; omega
  have zt1R := sz_tx t1R
  obtain ⟨t2R, ht2R⟩ : ∃ q, q = t1R ++ R := ⟨_, rfl⟩
  have et2R := add_tx t1R R
  rw [← ht2R] at et2R
  have lt2R : t2R.length ≤ 11 := by rw [ht2R, List.length_append]; omega
  have zt2R := sz_tx t2R
  obtain ⟨t1V, ht1V⟩ : ∃ q, q = t2R ++ [45] := ⟨_, rfl⟩
  have et1V := add_tx t2R [45]
  rw [← ht1V] at et1V
  have lt1V : t1V.length ≤ 12 := by rw [ht1V, List.length_append]; simp only [List.length_cons, List.length_nil]; omega
  have zt1V := sz_tx t1V
  obtain ⟨t2V, ht2V⟩ : ∃ q, q = t1V ++ V := ⟨_, rfl⟩
  have et2V := add_tx t1V V
  rw [← ht2V] at et2V
  have lt2V : t2V.length ≤ 20 := by rw [ht2V, List.length_append]; omega
  have zt2V := sz_tx t2V
  obtain ⟨f2, hf2⟩ : ∃ q, q = t1S ++ R := ⟨_, rfl⟩
  have ef2 := add_tx t1S R
  rw [← hf2] at ef2
  have lf2 : f2.length ≤ 6 := by rw [hf2, List.length_append]; omega
  have zf2 := sz_tx f2
  obtain ⟨f3, hf3⟩ : ∃ q, q = f2 ++ [45] := ⟨_, rfl⟩
  have ef3 := add_tx f2 [45]
  rw [← hf3] at ef3
  have lf3 : f3.length ≤ 7 := by rw [hf3, List.length_append]; simp only [List.length_cons, List.length_nil]; omega
  have zf3 := sz_tx f3
  obtain ⟨f4, hf4⟩ : ∃ q, q = f3 ++ S := ⟨_, rfl⟩
  have ef4 := add_tx f3 S
  rw [← hf4] at ef4
  have lf4 : f4.length ≤ 11 := by rw [hf4, List.length_append]; omega
  have zf4 := sz_tx f4
  obtain ⟨g2, hg2⟩ : ∃ q, q = t1S ++ V := ⟨_, rfl⟩
  have eg2 := add_tx t1S V
  rw [← hg2] at eg2
  have lg2 : g2.length ≤ 12 := by rw [hg2, List.length_append]; omega
  have zg2 := sz_tx g2
  obtain ⟨g3, hg3⟩ : ∃ q, q = g2 ++ [45] := ⟨_, rfl⟩
  have eg3 := add_tx g2 [45]
  rw [← hg3] at eg3
  have lg3 : g3.length ≤ 13 := by rw [hg3, List.length_append]; simp only [List.length_cons, List.length_nil]; omega
  have zg3 := sz_tx g3
  obtain ⟨g4, hg4⟩ : ∃ q, q = g3 ++ R := ⟨_, rfl⟩
  have eg4 := add_tx g3 R
  rw [← hg4] at eg4
  have lg4 : g4.length ≤ 15 := by rw [hg4, List.length_append]; omega
  have zg4 := sz_tx g4
  obtain ⟨h4, hh4⟩ : ∃ q, q = g3 ++ V := ⟨_, rfl⟩
  have eh4 := add_tx g3 V
  rw [← hh4] at eh4
  have lh4 : h4.length ≤ 21 := by rw [hh4, List.length_append]; omega
  have zh4 := sz_tx h4
  have hcn2 : G.canon t2V = some t2V := by
    have : G.join ([L] ++ (if true then [S] else []) ++ (if true then [R] else []) ++ (if true then [V] else [])) = t2V := by
      simp [G.join, ht1S, ht2S, ht1R, ht2R, ht1V, ht2V]
    rw [this] at hcn
    exact hcn
  rw [← ht1S, ← hf2, ← hf3, ← hf4] at h_rs
  rw [← ht1S, ← hg2, ← hg3] at h_vr h_vv
  rw [← hg4] at h_vr
  rw [← hh4] at h_vv
  have hT := G.isT_canon hcn2
  have k9 := fun W (hW : AF W) => canon_ok hcn2 W hW
  have k9f := fun W (hW : AF W) => canon_no h_rs (by omega) W hW
  have k9g := fun W (hW : AF W) => canon_no h_vr (by omega) W hW
  have k9h := fun W (hW : AF W) => canon_no h_vv (by omega) W hW
  have k11 := fun W (hW : AF W) => is_any t2V (by omega) W hW
  rw [hT] at k11
  have ett : (t2V == t2V) = true := by simp
  have zL := sz_tx L
  have zSS := sz_tx S
  have zR := sz_tx R
  have zV := sz_tx V
  have ha := a0.toNat_lt
  have hb := b0.toNat_lt
  have hd := d0.toNat_lt
  obtain ⟨q1, hq1⟩ : ∃ q : Nat, q = a0.toNat / 26 := ⟨_, rfl⟩
  obtain ⟨q2, hq2⟩ : ∃ q : Nat, q = q1 % 2 := ⟨_, rfl⟩
  obtain ⟨q3, hq3⟩ : ∃ q : Nat, q = d0.toNat / 26 := ⟨_, rfl⟩
  obtain ⟨q4, hq4⟩ : ∃ q : Nat, q = q3 % 4 := ⟨_, rfl⟩
  have x1 : (a0.toNat : Int) / 26 = (q1 : Int) := by omega
  have x1t : (a0.toNat : Int).tdiv 26 = (q1 : Int) := by rw [Int.tdiv_eq_ediv_of_nonneg (by omega)]; omega
  have x2 : (q1 : Int) % 2 = (q2 : Int) := by omega
  have x2t : (q1 : Int).tmod 2 = (q2 : Int) := by rw [Int.tmod_eq_emod_of_nonneg (by omega)]; omega
  have x3 : (2 : Int) + (q2 : Int) = (kl : Int) := by have := hkl.out; omega
  have x4 : (d0.toNat : Int) / 26 = (q3 : Int) := by omega
  have x4t : (d0.toNat : Int).tdiv 26 = (q3 : Int) := by rw [Int.tdiv_eq_ediv_of_nonneg (by omega)]; omega
  have x5 : (q3 : Int) % 4 = (q4 : Int) := by omega
  have x5t : (q3 : Int).tmod 4 = (q4 : Int) := by rw [Int.tmod_eq_emod_of_nonneg (by omega)]; omega
  have x6 : (5 : Int) + (q4 : Int) = (kv : Int) := by have := hkv.out; omega
  have x7 : (b0.toNat : Int) / 2 = ((b0 / 2).toNat : Int) := by rw [UInt8.toNat_div]; rfl
  have x7t : (b0.toNat : Int).tdiv 2 = ((b0 / 2).toNat : Int) := by rw [Int.tdiv_eq_ediv_of_nonneg (by omega)]; exact x7
  have b1 : q1 ≤ 9 := by omega
  have b2 : q2 ≤ 1 := by omega
  have b3 : q3 ≤ 9 := by omega
  have b4 : q4 ≤ 3 := by omega
  generalize b0 / 2 = bh at *
  have hbh := bh.toNat_lt
  clear hcn hcn2 h_rs h_vr h_vv hT hkl hkv hq1 hq2 hq3 hq4 ht1S ht2S ht1R ht2R ht1V ht2V hf2 hf3 hf4 hg2 hg3 hg4 hh4 fs0 fs1 zS
  simp only [U8, tx, show (((97 : UInt8).toNat : Nat) : Int) = 97 from rfl, show (((65 : UInt8).toNat : Nat) : Int) = 65 from rfl] at hp1 hp2 hp3 hp4 hp5 k9 k9f k9g k9h k11
  unfold U8
  go_enter Tryd.func5, Tryd.ntmps5
  go_wp2_with fail
  refine hk.mono ?_
  rintro e w1 ⟨rfl, b1⟩
  have A1 := hide (HA.out.later b1)
  have B1 := hide b1
  clear HA hk b1
  go_wp2_with fail
  with_reducible refine (hp1 w1).mono ?_
  rintro e w2 ⟨rfl, b2⟩
  have A2 := hide (A1.out.later b2)
  have B2 := hide (nx B1.out b2)
  clear A1 B1 b2 hp1
  go_wp2_with fail
  with_reducible refine (hp2 w2).mono ?_
  rintro e w3 ⟨rfl, b3⟩
  have A3 := hide (A2.out.later b3)
  have B3 := hide (nx B2.out b3)
  clear A2 B2 b3 hp2
  go_wp2_with fail
  with_reducible refine (hp3 w3).mono ?_
  rintro e w4 ⟨rfl, b4⟩
  have A4 := hide (A3.out.later b4)
  have B4 := hide (nx B3.out b4)
  clear A3 B3 b4 hp3
  go_wp2_with fail
  with_reducible refine (hp4 w4).mono ?_
  rintro e w5 ⟨rfl, b5⟩
  have A5 := hide (A4.out.later b5)
  have B5 := hide (nx B4.out b5)
  clear A4 B4 b5 hp4
  go_wp2_with fail
  with_reducible refine (hp5 w5).mono ?_
  rintro e w6 ⟨rfl, b6⟩
  have A6 := hide (A5.out.later b6)
  have B6 := hide (nx B5.out b6)
  clear A5 B5 b6 hp5
  go_wp2_with fail
  with_reducible refine (k9 w6 A6.out).mono ?_
  rintro e w7 ⟨rfl, b7⟩
  have A7 := hide (A6.out.later b7)
  have B7 := hide (nx B6.out b7)
  clear A6 B6 b7 k9
  go_wp2_with fail
  with_reducible refine (k9f w7 A7.out).mono ?_
  rintro e w8 ⟨rfl, b8⟩
  have A8 := hide (A7.out.later b8)
  have B8 := hide (nx B7.out b8)
  clear A7 B7 b8 k9f
  go_wp2_with fail
  with_reducible refine (k9g w8 A8.out).mono ?_
  rintro e w9 ⟨rfl, b9⟩
  have A9 := hide (A8.out.later b9)
  have B9 := hide (nx B8.out b9)
  clear A8 B8 b9 k9g
  go_wp2_with fail
  with_reducible refine (k9h w9 A9.out).mono ?_
  rintro e w10 ⟨rfl, b10⟩
  have A10 := hide (A9.out.later b10)
  have B10 := hide (nx B9.out b10)
  clear A9 B9 b10 k9h
  go_wp2_with fail
  with_reducible refine (k11 w10 A10.out).mono ?_
  rintro e w11 ⟨rfl, b11⟩
  have A11 := hide (A10.out.later b11)
  have B11 := hide (nx B10.out b11)
  clear A10 B10 b11 k11
  go_wp2
  go_ret
  exact ⟨rfl, B11.out⟩
theorem builtT_any (a0 b0 c0 d0 : UInt8) (b c d : Bool) (w : World) (hA : AF w) : Calls Tryd.prog 5 #[U8 a0, U8 b0, U8 c0, U8 d0, .bool b, .bool c, .bool d] w fun e W' => e = .returned (.bool true) ∧ Below w.heap.size w W' := by
  cases b <;> cases c <;> cases d
  · exact built_000 a0 b0 c0 d0 w hA
  · exact built_001 a0 b0 c0 d0 w hA
  · exact built_010 a0 b0 c0 d0 w hA
  · exact built_011 a0 b0 c0 d0 w hA
  · exact built_100 a0 b0 c0 d0 w hA
  · exact built_101 a0 b0 c0 d0 w hA
  · exact built_110 a0 b0 c0 d0 w hA
  · exact built_111 a0 b0 c0 d0 w hA
end Go.Proofs.YtdbidfphpnkkhaaDoor
