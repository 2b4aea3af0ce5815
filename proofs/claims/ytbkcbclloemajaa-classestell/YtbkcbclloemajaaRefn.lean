/- The reference's Class, and plain facts on its cut: whatever rising places there are, so long as every end of a set is among them, they tell the classes. -/
import Derived.Test.YtbkcbclloemajaaOrdn
import Derived.Test.YtbkcbclloemajaaMethb
import Derived.Test.YtbkcbclloemajaaKeysb
namespace Go.Proofs.Ytbkcbclloemajaa
section
open Go.RowKit Go.Shelf

/-- A row of ints. -/
def RdN (w : World) (ao : Option Addr) (ks : List Nat) : Prop := ∀ i (_ : i < ks.length), ∃ b off, ao = some ⟨b, off, none⟩ ∧ w.cell? ⟨b, off + i, none⟩ = some (.int .i64 ((ks[i] : Nat) : Int))
theorem RdN.later {w w' : World} {ao : Option Addr} {ks : List Nat} (h : RdN w ao ks) (hb : Below w.heap.size w w') : RdN w' ao ks := fun i hi =>
  let ⟨b, off, e, h1⟩ := h i hi
  ⟨b, off, e, cell_later hb h1⟩
/-- The class of the last place at r or ahead of it. -/
def lastC (fs : List Int) (ks : List Nat) (r : Int) (i : Nat) (q : Int) : Prop := (∀ j (h : j < fs.length), j < i → fs[j] ≤ r) ∧ (i = 0 ∧ q = -1 ∨ ∃ j, ∃ h : j < ks.length, i = j + 1 ∧ q = (ks[j] : Int))

def Cls (fs : List Int) (ks : List Nat) (r q : Int) : Prop := (¬ (0 ≤ r ∧ r ≤ 1114111) ∧ q = -1) ∨ (0 ≤ r ∧ r ≤ 1114111 ∧ ∃ i, i ≤ fs.length ∧ lastC fs ks r i q ∧ ∀ h : i < fs.length, r < fs[i])

set_option maxRecDepth 100000 in
set_option maxHeartbeats 1000000 in
theorem rclass_any (fo ko : Option Addr) (cf ck : Nat) (fs : List Int) (ks : List Nat) (hl : fs.length ≤ 1000000) (hk : ks.length = fs.length) (r : Int) (w : World) (hf : RdI w fo fs) (hks : RdN w ko ks) :
    Calls Try.prog 14 #[.slice fo fs.length cf, .slice ko ks.length ck, .int .i32 r] w fun e w' => (∃ q : Int, e = .returned (.int .i64 q) ∧ Cls fs ks r q) ∧ w' = w := by
  by_cases q1 : 0 ≤ r
  · by_cases q2 : r ≤ 1114111
    · go_enter Try.func14, Try.ntmps14
      go_wp2
      have e1 : decide (r < 0) = false := by simp; omega
      have e2 : decide ((1114111 : Int) < r) = false := by simp; omega
      try simp only [e1, e2, Bool.or_self]
      clear e1 e2
      go_loopw [7, 8] (fun v u wr => ∃ (i : Nat) (q : Int), v = .int .i64 q ∧ u = .int .i64 (i : Int) ∧ i ≤ fs.length ∧ Hid (lastC fs ks r i q) ∧ wr = w) (fun _ u _ => fs.length - (intOf u).toNat)
      case atStart => exact ⟨0, -1, rfl, rfl, Nat.zero_le _, hide ⟨fun j _ h => by omega, .inl ⟨rfl, rfl⟩⟩, by first | rfl | trivial⟩
      case round =>
        obtain ⟨i, q, rfl, rfl, hi, HQ, rfl⟩ := hrel
        by_cases hlt : i < fs.length
        · have hlk : i < ks.length := by omega
          obtain ⟨b, off, rfl, c1⟩ := hf i hlt
          obtain ⟨b2, off2, rfl, c2⟩ := hks i hlk
          have HS : Hid (fs[i] ≤ r → lastC fs ks r (i + 1) (ks[i] : Int)) := hide fun hle => ⟨fun j hj hji => by
            rcases Nat.lt_or_ge j i with h | h
            · exact HQ.out.1 j hj h
            · obtain rfl : j = i := by omega
              exact hle, .inr ⟨i, hlk, rfl, rfl⟩⟩
          have HE : Hid (r < fs[i] → ∃ i', i' ≤ fs.length ∧ lastC fs ks r i' q ∧ ∀ h : i' < fs.length, r < fs[i']) := hide fun h => ⟨i, by omega, HQ.out, fun _ => h⟩
          obtain ⟨f, hfe⟩ : ∃ f, fs[i] = f := ⟨_, rfl⟩
          obtain ⟨kk, hke⟩ : ∃ kk, ks[i] = kk := ⟨_, rfl⟩
          rw [hfe] at c1 HS HE
          rw [hke] at c2 HS
          clear hfe hke HQ
          by_cases hle : f ≤ r
          · go_wp2
            go_roundw
            case rel => exact ⟨i + 1, (kk : Int), rfl, by go_num, by omega, hide (HS.out hle), by first | rfl | trivial⟩
            case measure => simp [intOf]; omega
          · have hle' : r < f := by omega
            have HE2 := hide (HE.out hle')
            clear HE HS
            go_wp2
            go_ret
            exact ⟨⟨q, rfl, .inr ⟨q1, q2, HE2.out⟩⟩, rfl⟩
        · obtain rfl : i = fs.length := by omega
          go_wp2
          go_ret
          exact ⟨⟨q, rfl, .inr ⟨q1, q2, fs.length, Nat.le_refl _, HQ.out, fun h => by omega⟩⟩, rfl⟩
    · have q2' : 1114111 < r := by omega
      go_enter Try.func14, Try.ntmps14
      go_wp2
      go_ret
      exact ⟨⟨-1, rfl, .inl ⟨by omega, rfl⟩⟩, rfl⟩
  · have q1' : r < 0 := by omega
    go_enter Try.func14, Try.ntmps14
    go_wp2
    go_ret
    exact ⟨⟨-1, rfl, .inl ⟨by omega, rfl⟩⟩, rfl⟩
end

/-- Rising places, nought among them, that hold every end (these: those told so far). -/
structure Plc (E : List (Int × Nat)) (fs : List Int) : Prop where
  rise : fs.Pairwise (· < ·)
  zero : (0 : Int) ∈ fs
  low : ∀ x ∈ fs, 0 ≤ x ∧ x ≤ 1114111
  ev : ∀ e ∈ E, e.1 ≤ 1114111 → e.1 ∈ fs
theorem plc_start : Plc [] [0] := ⟨List.pairwise_singleton _ _, by simp, fun x h => by simp at h; omega, fun e h => by simp at h⟩
/-- Put one more in. -/
structure Ins (fs : List Int) (r : Int) (fs' : List Int) : Prop where
  rise : fs'.Pairwise (· < ·)
  mem : ∀ x, x ∈ fs' ↔ x ∈ fs ∨ x = r
  len : fs'.length ≤ fs.length + 1
theorem ins_same {fs : List Int} {r : Int} (h : fs.Pairwise (· < ·)) (hr : r ∈ fs) : Ins fs r fs := ⟨h, fun x => ⟨.inl, fun h => h.elim id fun e => e ▸ hr⟩, by omega⟩
theorem ins_at {fs : List Int} {r : Int} (h : fs.Pairwise (· < ·)) (i : Nat) (h1 : ∀ x ∈ fs.take i, x < r) (h2 : ∀ x ∈ fs.drop i, r < x) : Ins fs r (fs.take i ++ r :: fs.drop i) := by
  refine ⟨?_, fun x => ?_, ?_⟩
  · have h0 : (fs.take i ++ fs.drop i).Pairwise (· < ·) := by rw [List.take_append_drop]; exact h
    obtain ⟨g1, g2, g3⟩ := List.pairwise_append.1 h0
    refine List.pairwise_append.2 ⟨g1, List.pairwise_cons.2 ⟨h2, g2⟩, fun a ha b hb => ?_⟩
    rcases List.mem_cons.1 hb with rfl | hb
    · exact h1 a ha
    · exact g3 a ha b hb
  · have : x ∈ fs ↔ x ∈ fs.take i ∨ x ∈ fs.drop i := by rw [← List.mem_append, List.take_append_drop]
    simp only [List.mem_append, List.mem_cons, this]
    constructor
    · rintro (h | h | h)
      · exact .inl (.inl h)
      · exact .inr h
      · exact .inl (.inr h)
    · rintro ((h | h) | h)
      · exact .inl h
      · exact .inr (.inr h)
      · exact .inr (.inl h)
  · simp
    omega
theorem rise_drop {fs : List Int} (h : fs.Pairwise (· < ·)) {i : Nat} (hi : i < fs.length) {r : Int} (hr : r < fs[i]) : ∀ x ∈ fs.drop i, r < x := by
  rw [List.drop_eq_getElem_cons hi]
  have h2 : (fs.drop i).Pairwise (· < ·) := h.sublist (List.drop_sublist i fs)
  rw [List.drop_eq_getElem_cons hi] at h2
  intro x hx
  rcases List.mem_cons.1 hx with rfl | hx
  · exact hr
  · have := (List.pairwise_cons.1 h2).1 x hx
    omega
theorem Plc.ins {E : List (Int × Nat)} {fs fs' : List Int} {r : Int} {j : Nat} (h : Plc E fs) (hi : Ins fs r fs') (h0 : 0 ≤ r) (h1 : r ≤ 1114111) : Plc (E ++ [(r, j)]) fs' :=
  ⟨hi.rise, (hi.mem _).2 (.inl h.zero), fun x hx => ((hi.mem x).1 hx).elim (h.low x) (fun e => by omega), fun e he h2 => (hi.mem _).2 (by
    rcases List.mem_append.1 he with h3 | h3
    · exact .inl (h.ev e h3 h2)
    · simp at h3; subst h3; exact .inr rfl)⟩
theorem Plc.over {E : List (Int × Nat)} {fs : List Int} {r : Int} {j : Nat} (h : Plc E fs) (hr : 1114111 < r) : Plc (E ++ [(r, j)]) fs :=
  ⟨h.rise, h.zero, h.low, fun e he h2 => by
    rcases List.mem_append.1 he with h3 | h3
    · exact h.ev e h3 h2
    · simp at h3; subst h3; omega⟩

theorem last_of (p : Int) (fs : List Int) : (∃ x ∈ fs, x ≤ p) → fs.Pairwise (· < ·) → ∃ j, ∃ hj : j < fs.length, fs[j] ≤ p ∧ ∀ i (hi : i < fs.length), j < i → p < fs[i] := by
  rcases List.eq_nil_or_concat fs with rfl | ⟨fs', x, rfl⟩
  · rintro ⟨x, h, _⟩; simp at h
  · rw [List.concat_eq_append]
    intro he hr
    by_cases hx : x ≤ p
    · refine ⟨fs'.length, by simp, by simp [hx], fun i hi h => ?_⟩
      simp at hi
      omega
    · obtain ⟨y, hy, hyp⟩ := he
      have hy' : y ∈ fs' := by
        rcases List.mem_append.1 hy with h | h
        · exact h
        · simp at h; subst h; exact absurd hyp hx
      obtain ⟨j, hj, h1, h2⟩ := last_of p fs' ⟨y, hy', hyp⟩ (List.pairwise_append.1 hr).1
      refine ⟨j, by simp; omega, by rw [List.getElem_append_left hj]; exact h1, fun i hi hji => ?_⟩
      by_cases hi2 : i < fs'.length
      · rw [List.getElem_append_left hi2]; exact h2 i hi2 hji
      · rw [List.getElem_append_right (by omega)]
        simp
        omega
termination_by fs.length
decreasing_by simp_all

theorem Plc.still {T : List (List S.R)} {n : Nat} {fs : List Int} (h : Plc (evT T n) fs) {p : Int} (h1 : p ≤ 1114111) {j : Nat} (hj : j < fs.length) (hle : fs[j] ≤ p) (hn : ∀ i (hi : i < fs.length), j < i → p < fs[i]) : msk T p n = msk T fs[j] n := by
  refine mk_still hle fun q hq1 hq2 => ?_
  cases he : evN (evT T n) q with
  | none => rfl
  | some m =>
    obtain ⟨i, hi⟩ := (evN_some (evT T n) q).1 (by rw [he]; rfl)
    have hm := h.ev (q, i) hi (by simp only; omega)
    obtain ⟨k, hk, hke⟩ := List.getElem_of_mem hm
    simp only at hke
    rcases Nat.lt_or_ge j k with hjk | hjk
    · have := hn k hk hjk; omega
    · rcases Nat.eq_or_lt_of_le hjk with e | hlt
      · subst e; omega
      · have := List.pairwise_iff_getElem.1 h.rise k j hk hj hlt; omega

/-- The places with their memberships. -/
noncomputable def plF (L : List L3) (fs : List Int) : List (S.R × Nat) := fs.map fun p => ((p, p), mkL L p)
theorem plF_ms {L : List L3} (h64 : L.length ≤ 64) {fs : List Int} (h : Plc (evT (TOf L) L.length) fs) : msOf (plF L fs) = msL L := by
  have hfind : ∀ p, 0 ≤ p → p ≤ 1114111 → ∃ j, ∃ hj : j < fs.length, fs[j] ≤ p ∧ (∀ i (hi : i < fs.length), j < i → p < fs[i]) ∧ mkL L p = mkL L fs[j] := fun p h0 h1 => by
    obtain ⟨j, hj, h2, h3⟩ := last_of p fs ⟨0, h.zero, h0⟩ h.rise
    exact ⟨j, hj, h2, h3, h.still h1 hj h2 h3⟩
  have hmem : ∀ m, m ∈ msOf (plF L fs) ↔ m ∈ msL L := fun m => by
    rw [msOf_mem, msL_mem h64]
    constructor
    · rintro ⟨q, hq, rfl⟩
      obtain ⟨p, hp, rfl⟩ := List.mem_map.1 hq
      exact ⟨p, (h.low p hp).1, (h.low p hp).2, rfl⟩
    · rintro ⟨p, h0, h1, rfl⟩
      obtain ⟨j, hj, _, _, e⟩ := hfind p h0 h1
      exact ⟨((fs[j], fs[j]), mkL L fs[j]), List.mem_map.2 ⟨fs[j], List.getElem_mem hj, rfl⟩, e.symm⟩
  have hpw : (msOf (plF L fs)).Pairwise (Ahead L) := by
    refine List.pairwise_iff_getElem.2 fun i j hi hj hij => ?_
    obtain ⟨P1, y, P2, hP, h1, h2⟩ := ms_split (plF L fs) hij hj
    obtain ⟨f1, f2', hfs, e1, e2⟩ := List.map_eq_append_iff.1 (show fs.map _ = P1 ++ y :: P2 from hP)
    obtain ⟨a, f2, rfl, e3, e4⟩ := List.map_eq_cons_iff.1 e2
    have ha : a ∈ fs := by rw [hfs]; simp
    refine ⟨a, (h.low a ha).1, (h.low a ha).2, ?_, fun q h0 hq => ?_⟩
    · rw [← h1, ← e3]
    · obtain ⟨k, hk, h3, _, e⟩ := hfind q h0 (by have := (h.low a ha).2; omega)
      rw [e]
      have hm : fs[k] ∈ fs := List.getElem_mem hk
      generalize fs[k] = z at *
      have hin : z ∈ f1 ++ [a] := by
        rw [hfs] at hm
        rcases List.mem_append.1 hm with h5 | h5
        · exact List.mem_append_left _ h5
        · rcases List.mem_cons.1 h5 with h5 | h5
          · rw [h5]; simp
          · have hr := h.rise
            rw [hfs] at hr
            have := (List.pairwise_cons.1 (List.pairwise_append.1 hr).2.1).1 _ h5
            omega
      have := h2 ((z, z), mkL L z) (by
        rw [← e1, ← e3]
        rcases List.mem_append.1 hin with h5 | h5
        · exact List.mem_append_left _ (List.mem_map.2 ⟨_, h5, rfl⟩)
        · simp at h5
          rw [h5]
          simp)
      exact this
  exact ((List.perm_ext_iff_of_nodup (msOf_nodup _) (msL_nodup L)).2 hmem).eq_of_pairwise (le := Ahead L) (fun a b _ _ h1 h2 => ahead_asym h1 h2) hpw (msL_ahead h64)

/-- The classes of the places. -/
noncomputable def clF (L : List L3) (fs : List Int) : List Nat := fs.map fun p => (msL L).idxOf (mkL L p)
theorem clF_at {L : List L3} {fs : List Int} {i : Nat} (hi : i < fs.length) (h0 : 0 ≤ fs[i]) (h1 : fs[i] ≤ 1114111) : ((clF L fs)[i]'(by simp [clF]; exact hi) : Int) = ofL L fs[i] := by
  unfold ofL
  rw [if_pos ⟨h0, h1⟩]
  simp [clF]
theorem cls_ofL {L : List L3} {fs : List Int} (h : Plc (evT (TOf L) L.length) fs) {r q : Int} (hc : Cls fs (clF L fs) r q) : q = ofL L r := by
  unfold ofL
  rcases hc with ⟨h1, rfl⟩ | ⟨h0, h1, i, hi, ⟨hl, hq⟩, hr⟩
  · rw [if_neg h1]
  · rw [if_pos ⟨h0, h1⟩]
    have hgt : ∀ k (hk : k < fs.length), i ≤ k → r < fs[k] := fun k hk hik => by
      rcases Nat.eq_or_lt_of_le hik with e | hlt
      · subst e; exact hr hk
      · have := List.pairwise_iff_getElem.1 h.rise i k (by omega) hk hlt
        have := hr (by omega)
        omega
    rcases hq with ⟨rfl, rfl⟩ | ⟨j, hj, rfl, rfl⟩
    · obtain ⟨k, hk, e⟩ := List.getElem_of_mem h.zero
      have := hgt k hk (Nat.zero_le _)
      omega
    · have hj' : j < fs.length := by omega
      have e : mkL L r = mkL L fs[j] := h.still h1 hj' (hl j hj' (by omega)) (fun k hk hjk => hgt k hk (by omega))
      rw [e]
      simp [clF]
end Go.Proofs.Ytbkcbclloemajaa
