/- What lies behind a *Classes, for those who only read; its small methods. -/
import Derived.Laws.Bits64b
import Derived.Laws.Cover3
import Derived.Test.YtbkcbclloemajaaCutx
namespace Go.Proofs.Ytbkcbclloemajaa
open Go.RowKit Go.Shelf

/-- The classes' rows. -/
def RdK (w : World) (acl : Option Addr) (ms : List Nat) (sets : Nat → List S.R) : Prop :=
  ∀ i (_ : i < ms.length), ∃ g off ao c, acl = some ⟨g, off, none⟩ ∧ w.cell? ⟨g, off + i * 2, none⟩ = some (.int .u64 ((ms[i] : Nat) : Int)) ∧ w.cell? ⟨g, off + i * 2 + 1, none⟩ = some (.slice ao (sets ms[i]).length c) ∧ RdR w ao (sets ms[i]) ∧ (ao = none → c = 0)
/-- The pieces' rows. -/
def RdP (w : World) (aps : Option Addr) (ps : List (Int × Nat)) : Prop :=
  ∀ i (_ : i < ps.length), ∃ g off, aps = some ⟨g, off, none⟩ ∧ w.cell? ⟨g, off + i * 2, none⟩ = some (.int .i32 ps[i].1) ∧ w.cell? ⟨g, off + i * 2 + 1, none⟩ = some (.int .i64 ((ps[i].2 : Nat) : Int))
/-- What lies behind a *Classes. -/
def Cl (w : World) (pc n : Nat) (ms : List Nat) (sets : Nat → List S.R) (ps : List (Int × Nat)) : Prop :=
  ∃ acl ccl aps cps, w.heap[pc]? = some (.cells #[.int .i64 (n : Int), .slice acl ms.length ccl, .slice aps ps.length cps] 54 (0, 0)) ∧ RdK w acl ms sets ∧ RdP w aps ps
theorem Cl.later {w w' : World} {pc n : Nat} {ms : List Nat} {sets : Nat → List S.R} {ps : List (Int × Nat)} (h : Cl w pc n ms sets ps) (hb : Below w.heap.size w w') : Cl w' pc n ms sets ps := by
  obtain ⟨acl, ccl, aps, cps, h1, h2, h3⟩ := h
  refine ⟨acl, ccl, aps, cps, (hb.block pc (Array.getElem?_eq_some_iff.1 h1).1).trans h1, fun i hi => ?_, fun i hi => ?_⟩
  · obtain ⟨g, off, ao, c, e, c1, c2, r, hn⟩ := h2 i hi
    exact ⟨g, off, ao, c, e, cell_later hb c1, cell_later hb c2, r.later hb, hn⟩
  · obtain ⟨g, off, e, c1, c2⟩ := h3 i hi
    exact ⟨g, off, e, cell_later hb c1, cell_later hb c2⟩
theorem cP_at (ps : List (Int × Nat)) (k : Nat) (h : k < ps.length) : (cP ps)[k * 2]? = some (.int .i32 ps[k].1) ∧ (cP ps)[k * 2 + 1]? = some (.int .i64 ((ps[k].2 : Nat) : Int)) := by
  induction ps generalizing k with
  | nil => simp at h
  | cons x ps ih =>
    cases k with
    | zero => simp [cP]
    | succ k =>
      have := ih k (by simpa using h)
      unfold cP at this ⊢
      rw [List.flatMap_cons, show (k + 1) * 2 = k * 2 + 2 by omega, show k * 2 + 2 + 1 = (k * 2 + 1) + 2 by omega]
      simpa using this
theorem own_slice {w : World} {B e s n : Nat} {v : Value} {xs : List Value} (h : w.ownsRow B e s v n xs) : ∃ ao c, v = .slice ao n c ∧ (ao = none → c = 0) ∧ (ao = none → n = 0) ∧ ∀ j u, xs[j]? = some u → ∃ g, ao = some ⟨g, 0, none⟩ ∧ w.cell? ⟨g, j, none⟩ = some u := by
  have hc := fun g => h.cells (g := g)
  obtain ⟨h0, ⟨h1, h2⟩ | ⟨g, cap, cur, rfl, _⟩⟩ := h
  · subst h2
    refine ⟨none, 0, h1, fun _ => rfl, fun _ => rfl, fun j u hu => ?_⟩
    have : xs = [] := List.eq_nil_of_length_eq_zero (by simpa using h0)
    rw [this] at hu
    simp at hu
  · refine ⟨_, cap, rfl, fun e => (by cases e), fun e => (by cases e), fun j u hu => ⟨g, rfl, ?_⟩⟩
    have := hc g rfl j u hu
    rw [Addr.add_mid, Nat.zero_add] at this
    exact this
theorem St.cl {w : World} {e0 n : Nat} {P : List (S.R × Nat)} {A : World} (h : St w e0 n P A) : Cl A w.heap.size n (msOf P) (setsOf P) (psOf (msOf P) P) ∧ Below w.heap.size w A := by
  obtain ⟨cs, vcl, vps, hms, hx⟩ := h
  refine ⟨?_, hx.below⟩
  obtain ⟨acl, ccl, rfl, _, hn1, h1⟩ := own_slice hx.rc
  obtain ⟨aps, cps, rfl, _, hn2, h2⟩ := own_slice hx.rp
  have hl : cs.length = (msOf P).length := by rw [← hms, List.length_map]
  refine ⟨acl, ccl, aps, cps, by rw [← hl]; exact hx.st, fun i hi => ?_, fun i hi => ?_⟩
  · have hi' : i < cs.length := by omega
    obtain ⟨c1, c2⟩ := cC_at cs i hi'
    obtain ⟨g, rfl, d1⟩ := h1 _ _ c1
    obtain ⟨g', e, d2⟩ := h1 _ _ c2
    cases e
    have hm : cs[i].1 = (msOf P)[i] := by
      have : (cs.map (·.1))[i]'(by simpa using hi') = (msOf P)[i] := by simp only [hms]
      simpa using this
    have ho := hx.rs i hi'
    obtain ⟨ao, c, hv, _, hn, hr⟩ := OwnR.rd ho
    rw [hv] at d2
    rw [hm] at d1 d2 hr
    refine ⟨g, 0, ao, c, rfl, by rw [Nat.zero_add]; exact d1, by rw [Nat.zero_add]; exact d2, hr, ?_⟩
    obtain ⟨ao2, c2', hv2, hc0, _⟩ := own_slice ho
    rw [hv] at hv2
    cases hv2
    exact hc0
  · obtain ⟨c1, c2⟩ := cP_at _ i hi
    obtain ⟨g, rfl, d1⟩ := h2 _ _ c1
    obtain ⟨g', e, d2⟩ := h2 _ _ c2
    cases e
    exact ⟨g, 0, rfl, by rw [Nat.zero_add]; exact d1, by rw [Nat.zero_add]; exact d2⟩

section
variable {w : World} {pc n : Nat} {ms : List Nat} {sets : Nat → List S.R} {ps : List (Int × Nat)}
set_option maxHeartbeats 1000000 in
theorem clen_any (h : Cl w pc n ms sets ps) : Calls Try.prog 12 #[.pointer (some ⟨pc, 0, none⟩)] w fun e w' => e = .returned (.int .i64 (ms.length : Int)) ∧ w' = w := by
  obtain ⟨acl, ccl, aps, cps, h1, _, _⟩ := h
  have c1 : w.cell? ⟨pc, 1, none⟩ = some (.slice acl ms.length ccl) := cell_at h1 rfl
  clear h1
  go_enter Try.func12, Try.ntmps12
  go_wp2
  go_ret
  exact ⟨rfl, rfl⟩
set_option maxHeartbeats 1000000 in
theorem sets_any (h : Cl w pc n ms sets ps) : Calls Try.prog 15 #[.pointer (some ⟨pc, 0, none⟩)] w fun e w' => e = .returned (.int .i64 (n : Int)) ∧ w' = w := by
  obtain ⟨acl, ccl, aps, cps, h1, _, _⟩ := h
  have c1 : w.cell? ⟨pc, 0, none⟩ = some (.int .i64 (n : Int)) := cell_at h1 rfl
  clear h1
  go_enter Try.func15, Try.ntmps15
  go_wp2
  go_ret
  exact ⟨rfl, rfl⟩
set_option maxHeartbeats 2000000 in
theorem isClass_any (h : Cl w pc n ms sets ps) (j : Int) : Calls Try.prog 31 #[.pointer (some ⟨pc, 0, none⟩), .int .i64 j] w fun e w' => e = .returned (.bool (decide (0 ≤ j ∧ j < ms.length))) ∧ w' = w := by
  obtain ⟨acl, ccl, aps, cps, h1, _, _⟩ := h
  have c1 : w.cell? ⟨pc, 1, none⟩ = some (.slice acl ms.length ccl) := cell_at h1 rfl
  clear h1
  go_enter Try.func31, Try.ntmps31
  by_cases h0 : 0 ≤ j
  · go_wp2
    go_ret
    exact ⟨by simp [h0], rfl⟩
  · have h0' : j < 0 := by omega
    go_wp2
    go_ret
    refine ⟨?_, rfl⟩
    rw [decide_eq_false (by omega : ¬ 0 ≤ j)]
    rfl
set_option maxRecDepth 100000 in
set_option maxHeartbeats 2000000 in
theorem clone_any (ao : Option Addr) (c : Nat) (xs : List S.R) (hn : ao = none → c = 0) (hl : xs.length ≤ 1000000) (hr : RdR w ao xs) : Calls Try.prog 32 #[.slice ao xs.length c] w fun e w' => ∃ a' c', e = .returned (.slice a' xs.length c') ∧ RdR w' a' xs ∧ (a' = none → c' = 0) ∧ Below w.heap.size w w' := by
  have heq : (binOp .eql 35 (.slice ao xs.length c) (.slice none 0 0)).run Try.prog w = .ok (.bool ao.isNone) w := by
    simp only [binOp]
    simp [run_equal_slice_nil w 35 48 ao xs.length c Try.underlying35]
  cases ao with
  | none =>
    have hx : xs = [] := by
      cases xs with
      | nil => rfl
      | cons x l =>
        obtain ⟨_, _, e, _⟩ := hr 0 (by simp)
        cases e
    subst hx
    obtain rfl := hn rfl
    simp only [List.length_nil, Option.isNone_none] at heq ⊢
    go_enter Try.func32, Try.ntmps32
    go_wp2
    go_ret
    exact ⟨none, 0, rfl, rdr_nil _ _, fun _ => rfl, Below.refl _ _⟩
  | some a =>
    simp only [Option.isNone_some] at heq
    have hown : OwnR (w.alloc (.cells #[] 48)) w.heap.size 48 (.slice (some ⟨w.heap.size, 0, none⟩) 0 0) [] := World.ownsRow_made w #[] 0 (Nat.le_refl _) (by decide) rfl
    go_enter Try.func32, Try.ntmps32
    go_wp2_with (at_builtin; refine wpl_appR Try.underlying35 info34 rfl _ _ rfl w.heap.size _ [] (some a) xs xs.length c rfl rfl rfl hown (by simp) (hr.later (al1 _ _)) (fun e => by cases e) (by simp; omega) ?_; intro v' w5 hown' hb5 hgr5)
    go_ret
    obtain ⟨a', c', rfl, h2, h3, h4⟩ := OwnR.rd hown'
    obtain ⟨ao2, c2', hv2, hc0, _⟩ := own_slice hown'
    cases hv2
    exact ⟨a', c', by simp, h4, hc0, (al1 w (.cells #[] 48)).trans hb5⟩
set_option maxHeartbeats 2000000 in
theorem mhas_any (m k : Nat) (hm : m < 2 ^ 64) (hk : k < 64) : Calls Try.prog 33 #[.int .u64 (m : Int), .int .i64 (k : Int)] w fun e w' => e = .returned (.bool (m.testBit k)) ∧ w' = w := by
  have hb : bits .and .u64 ((m : Int) / 2 ^ k) 1 = ((m / 2 ^ k % 2 : Nat) : Int) := by
    rw [show ((m : Int) / 2 ^ k) = ((m / 2 ^ k : Nat) : Int) by push_cast; rfl, show (1 : Int) = ((1 : Nat) : Int) from rfl, bits_and_u64_nat _ _ (Nat.lt_of_le_of_lt (Nat.div_le_self _ _) (by omega)) (by decide), Nat.and_one_is_mod]
  have he : (((m / 2 ^ k % 2 : Nat) : Int) == 1) = m.testBit k := by
    rw [Nat.testBit_eq_decide_div_mod_eq]
    generalize m / 2 ^ k % 2 = q
    by_cases h : q = 1
    · simp [h]
    · have : ¬ ((q : Int) = 1) := by omega
      simp [h, this]
  generalize hq : m / 2 ^ k % 2 = q at *
  go_enter Try.func33, Try.ntmps33
  go_wp2
  go_ret
  exact ⟨by rw [← he]; rfl, rfl⟩
set_option maxRecDepth 100000 in
set_option maxHeartbeats 4000000 in
theorem cset_any (h : Cl w pc n ms sets ps) (hls : ∀ m, (sets m).length ≤ 1000000) (j : Int) : Calls Try.prog 17 #[.pointer (some ⟨pc, 0, none⟩), .int .i64 j] w fun e w' => ∃ a' c' xs, e = .returned (.slice a' xs.length c') ∧ RdR w' a' xs ∧ (a' = none → c' = 0) ∧ Below w.heap.size w w' ∧ ((∃ i : Nat, ∃ hi : i < ms.length, j = (i : Int) ∧ xs = sets ms[i]) ∨ (¬ (0 ≤ j ∧ j < ms.length) ∧ xs = [])) := by
  have hcls := isClass_any h j
  obtain ⟨acl, ccl, aps, cps, h1, h2, _⟩ := h
  have c1 : w.cell? ⟨pc, 1, none⟩ = some (.slice acl ms.length ccl) := cell_at h1 rfl
  clear h1
  by_cases hj : 0 ≤ j ∧ j < ms.length
  · obtain ⟨i, rfl⟩ : ∃ i : Nat, j = (i : Int) := ⟨j.toNat, by omega⟩
    have hi : i < ms.length := by omega
    obtain ⟨g, off, ao, c, rfl, c2, c3, hr, hn⟩ := h2 i hi
    have hcl := clone_any ao c (sets ms[i]) hn (hls _) hr
    rw [decide_eq_true hj] at hcls
    obtain ⟨xs, hxs⟩ : ∃ xs, xs = sets ms[i] := ⟨_, rfl⟩
    rw [← hxs] at c3 hr hcl
    have HX := hide hxs
    clear h2 hxs
    go_enter Try.func17, Try.ntmps17
    go_wp2_with (first
      | (go_at_call 31; refine hcls.mono ?_; clear hcls; rintro e w' ⟨rfl, rfl⟩)
      | (go_at_call 32; refine hcl.mono ?_; clear hcl; rintro e w2 ⟨a', c', rfl, g1, g2, g3⟩))
    go_ret
    exact ⟨a', c', xs, rfl, g1, g2, g3, .inl ⟨i, hi, rfl, HX.out⟩⟩
  · rw [decide_eq_false hj] at hcls
    go_enter Try.func17, Try.ntmps17
    go_wp2_with (go_at_call 31; refine hcls.mono ?_; clear hcls; rintro e w' ⟨rfl, rfl⟩)
    go_ret
    exact ⟨none, 0, [], rfl, rdr_nil _ _, fun _ => rfl, Below.refl _ _, .inr ⟨hj, rfl⟩⟩
set_option maxRecDepth 100000 in
set_option maxHeartbeats 4000000 in
theorem cin_any (h : Cl w pc n ms sets ps) (hms : ∀ m ∈ ms, m < 2 ^ 64) (hn : n ≤ 64) (j k : Int) : Calls Try.prog 18 #[.pointer (some ⟨pc, 0, none⟩), .int .i64 j, .int .i64 k] w fun e w' => (∃ b, e = .returned (.bool b) ∧ ((∃ i : Nat, ∃ hi : i < ms.length, j = (i : Int) ∧ 0 ≤ k ∧ k < n ∧ b = ms[i].testBit k.toNat) ∨ (¬ (0 ≤ j ∧ j < ms.length ∧ 0 ≤ k ∧ k < n) ∧ b = false))) ∧ w' = w := by
  have hcls := isClass_any h j
  obtain ⟨acl, ccl, aps, cps, h1, h2, _⟩ := h
  have c1 : w.cell? ⟨pc, 1, none⟩ = some (.slice acl ms.length ccl) := cell_at h1 rfl
  have c0 : w.cell? ⟨pc, 0, none⟩ = some (.int .i64 (n : Int)) := cell_at h1 rfl
  clear h1
  by_cases hj : 0 ≤ j ∧ j < ms.length
  · obtain ⟨i, rfl⟩ : ∃ i : Nat, j = (i : Int) := ⟨j.toNat, by omega⟩
    have hi : i < ms.length := by omega
    obtain ⟨g, off, ao, c, rfl, c2, c3, hr, _⟩ := h2 i hi
    rw [decide_eq_true hj] at hcls
    by_cases hk0 : 0 ≤ k
    · by_cases hkn : k < n
      · obtain ⟨q, rfl⟩ : ∃ q : Nat, k = (q : Int) := ⟨k.toNat, by omega⟩
        have hmh := mhas_any (w := w) ms[i] q (hms _ (List.getElem_mem hi)) (by omega)
        obtain ⟨m, hxs⟩ : ∃ m, m = ms[i] := ⟨_, rfl⟩
        rw [← hxs] at c2 hmh
        have HX := hide hxs
        clear h2 c3 hr hxs
        go_enter Try.func18, Try.ntmps18
        go_wp2_with (first
          | (go_at_call 31; refine hcls.mono ?_; clear hcls; rintro e w' ⟨rfl, rfl⟩)
          | (go_at_call 33; refine hmh.mono ?_; clear hmh; rintro e w' ⟨rfl, rfl⟩))
        go_ret
        exact ⟨⟨_, rfl, .inl ⟨i, hi, rfl, hk0, hkn, by rw [Int.toNat_natCast, ← HX.out]⟩⟩, rfl⟩
      · have hkn' : (n : Int) ≤ k := by omega
        clear h2 c2 c3 hr
        go_enter Try.func18, Try.ntmps18
        go_wp2_with (go_at_call 31; refine hcls.mono ?_; clear hcls; rintro e w' ⟨rfl, rfl⟩)
        go_ret
        exact ⟨⟨_, rfl, .inr ⟨by omega, rfl⟩⟩, rfl⟩
    · have hk0' : k < 0 := by omega
      clear h2 c2 c3 hr
      go_enter Try.func18, Try.ntmps18
      go_wp2_with (go_at_call 31; refine hcls.mono ?_; clear hcls; rintro e w' ⟨rfl, rfl⟩)
      go_ret
      exact ⟨⟨_, rfl, .inr ⟨by omega, rfl⟩⟩, rfl⟩
  · rw [decide_eq_false hj] at hcls
    go_enter Try.func18, Try.ntmps18
    go_wp2_with (go_at_call 31; refine hcls.mono ?_; clear hcls; rintro e w' ⟨rfl, rfl⟩)
    go_ret
    exact ⟨⟨_, rfl, .inr ⟨by omega, rfl⟩⟩, rfl⟩
end
end Go.Proofs.Ytbkcbclloemajaa
