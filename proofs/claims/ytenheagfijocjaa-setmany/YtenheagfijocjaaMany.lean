/- The walk of SetMany: it answers true whatever the number; nothing that was there has turned. -/
import Derived.Test.YtenheagfijocjaaBounds
namespace Go.Proofs.Ytenheagfijocjaa
open Go.RowKit Go.Shelf

/-- Two rows of the call's own, each in memory of its own. -/
def Apt (v u : Value) : Prop := ∀ g, v.ownBlock = some g → u.ownBlock ≠ some g
theorem OwnR.beside {w w' : World} {B : Nat} {e : TypeId} {v u : Value} {ys : List S.R} (hu : OwnR w B e u ys) (ha : Apt v u) (hg : w.grownBy w' v.ownBlock) : OwnR w' B e u ys := by
  obtain ⟨h1, h2 | ⟨g, cap, cur, rfl, h3, h4, h5⟩⟩ := hu
  · exact ⟨h1, .inl h2⟩
  · refine ⟨h1, .inr ⟨g, cap, cur, rfl, h3, ?_, h5⟩⟩
    rw [hg.block g (Array.getElem?_eq_some_iff.1 h4).1 (fun e => ha g e.symm rfl)]
    exact h4
theorem Apt.step {w : World} {B : Nat} {e : TypeId} {v v' u : Value} {ys : List S.R} (ha : Apt v u) (hu : OwnR w B e u ys) (hat : v'.ownBlock = v.ownBlock ∨ v'.ownBlock = some w.heap.size) : Apt v' u := by
  intro g hg
  rcases hat with e' | e'
  · exact ha g (by rw [← e']; exact hg)
  · intro h
    rw [e'] at hg
    cases hg
    obtain ⟨_, ⟨rfl, _⟩ | ⟨g', cap, cur, rfl, _, h4, _⟩⟩ := hu
    · cases h
    · simp [Value.ownBlock] at h
      have := (Array.getElem?_eq_some_iff.1 h4).1
      omega
theorem Apt.symm {v u : Value} (h : Apt v u) : Apt u v := fun g h1 h2 => h g h2 h1

theorem wpl_appR2 {T e : TypeId} (hT : Try.prog.underlying T = some (.slice e)) (hI : (Try.prog.info? e).map (fun i => (i.zero, i.size, i.bytes)) = some (some (.agg #[.int .i32 0, .int .i32 0]), 2, 8))
    {w : World} {ops : Array Oper} {rest : List Oper} {o : Oper} {a : Act} {Q : Exit → Act → World → Prop} (hgd : o.guard = none) (s x : Operand)
    (hop : o.op = .call { callee := .builtin .append, args := #[s, x], argTypes := #[T, T] })
    (B : Nat) (v : Value) (xs : List S.R) (ad : Addr) (y : S.R) (cap : Nat) (hs : a.eval s = v) (hx : a.eval x = .slice (some ad) 1 cap)
    (ho : OwnR w B e v xs) (hB : B ≤ w.heap.size) (hr : RdR w (some ad) [y]) (hlen : xs.length + 1 ≤ 10000000)
    (h : ∀ v' w', OwnR w' B e v' (xs ++ [y]) → Below B w w' → w.grownBy w' v.ownBlock → (v'.ownBlock = v.ownBlock ∨ v'.ownBlock = some w.heap.size) → wpList Try.prog ops Q rest (a.put o.dst v') w') : wpList Try.prog ops Q (o :: rest) a w := by
  obtain ⟨i0, hi, hz0, hz1, hz2⟩ := info_parts2 hI
  have hm : (xs.length + 1) * 8 ≤ 140737488355328 := by omega
  refine wpList_append_own_at w hgd s x T hop B e i0 _ 2 8 hT hi hz0 hz1 hz2 rfl (by decide) v xs.length (cR xs) hs ho ad 1 cap (cR [y]) hx rfl
    (fun j u hu => by
      obtain ⟨b, off, e, _⟩ := hr 0 (by simp)
      cases e
      exact hr.cells j u hu) (cR_one _) (by unfold maxLen; omega) hm hB ?_
  intro v' w' h1 h2 _ h4
  refine h v' w' ?_ ((Below.refl _ _).grown h2 hB ho.block) h2 h4
  unfold OwnR
  rw [List.length_append, cR_append]
  exact h1

def mA (k : Nat) : List S.R := (List.range k).map fun i : Nat => (3 * (i : Int), 3 * (i : Int) + 1)
def mB (k : Nat) : List S.R := (List.range k).map fun i : Nat => (3 * (i : Int) + 2, 3 * (i : Int) + 2)
theorem mA_length (k : Nat) : (mA k).length = k := by simp [mA]
theorem mB_length (k : Nat) : (mB k).length = k := by simp [mB]
theorem mA_succ (k : Nat) : mA (k + 1) = mA k ++ [(3 * (k : Int), 3 * (k : Int) + 1)] := by simp [mA, List.range_succ]
theorem mB_succ (k : Nat) : mB (k + 1) = mB k ++ [(3 * (k : Int) + 2, 3 * (k : Int) + 2)] := by simp [mB, List.range_succ]
theorem mA_mem {k : Nat} {r : S.R} (h : r ∈ mA k) : ∃ i : Nat, i < k ∧ r = (3 * (i : Int), 3 * (i : Int) + 1) := by
  obtain ⟨i, hi, rfl⟩ := List.mem_map.1 h
  exact ⟨i, List.mem_range.1 hi, rfl⟩
theorem mB_mem {k : Nat} {r : S.R} (h : r ∈ mB k) : ∃ i : Nat, i < k ∧ r = (3 * (i : Int) + 2, 3 * (i : Int) + 2) := by
  obtain ⟨i, hi, rfl⟩ := List.mem_map.1 h
  exact ⟨i, List.mem_range.1 hi, rfl⟩
theorem mA_canon (k : Nat) (hk : k ≤ 1000) : S.Canon (mA k) := by
  induction k with
  | zero => exact S.canon_nil
  | succ k ih =>
    rw [mA_succ]
    refine S.canon_append.2 ⟨ih (by omega), S.canon_one ((S.good_iff _).2 (by simp only; omega)), fun x hx y hy => ?_⟩
    obtain ⟨i, hi, rfl⟩ := mA_mem hx
    obtain rfl : y = (3 * (k : Int), 3 * (k : Int) + 1) := by simpa using hy
    simp only
    omega
theorem mA_has (k : Nat) (hk : k ≤ 1000) (p : Int) : S.hs (mA k) p ↔ 0 ≤ p ∧ p < 3 * (k : Int) ∧ p % 3 ≠ 2 := by
  rw [(mA_canon k hk).hs]
  constructor
  · rintro ⟨r, hr, h1, h2⟩
    obtain ⟨i, hi, rfl⟩ := mA_mem hr
    simp only at h1 h2
    omega
  · rintro ⟨h1, h2, h3⟩
    refine ⟨(3 * ((p / 3).toNat : Int), 3 * ((p / 3).toNat : Int) + 1), List.mem_map.2 ⟨(p / 3).toNat, List.mem_range.2 (by omega), rfl⟩, by simp only; omega, by simp only; omega⟩
theorem mB_has (k : Nat) (hk : k ≤ 1000) (p : Int) : S.hs (mB k) p ↔ 0 ≤ p ∧ p < 3 * (k : Int) ∧ p % 3 = 2 := by
  have hg : S.goods (mB k) = mB k := List.filter_eq_self.2 fun r hr => by
    obtain ⟨i, hi, rfl⟩ := mB_mem hr
    exact (S.good_iff _).2 (by simp only; omega)
  rw [S.hs, hg]
  constructor
  · rintro ⟨r, hr, h1, h2⟩
    obtain ⟨i, hi, rfl⟩ := mB_mem hr
    simp only at h1 h2
    omega
  · rintro ⟨h1, h2, h3⟩
    refine ⟨(3 * ((p / 3).toNat : Int) + 2, 3 * ((p / 3).toNat : Int) + 2), List.mem_map.2 ⟨(p / 3).toNat, List.mem_range.2 (by omega), rfl⟩, by simp only; omega, by simp only; omega⟩
/-- All of them, joined. -/
def mU (k : Nat) : List S.R := if k = 0 then [] else [(0, 3 * (k : Int) - 1)]
theorem mU_canon (k : Nat) (hk : k ≤ 1000) : S.Canon (mU k) := by
  unfold mU
  split
  · exact S.canon_nil
  · exact S.canon_one ((S.good_iff _).2 (by simp only; omega))
theorem mU_set (k : Nat) (hk : k ≤ 1000) : S.set (mA k ++ mB k) = mU k := (S.set_eq (mU_canon k hk) fun p => by
  rw [S.hs_append, mA_has k hk, mB_has k hk]
  unfold mU
  split
  · constructor
    · intro h; exact absurd h (S.has_nil p)
    · rintro (h | h) <;> omega
  · rw [S.has_cons]
    simp only [S.has_nil, or_false]
    omega).symm
theorem mI_nil (k : Nat) (hk : k ≤ 1000) : S.inter (mA k) (mB k) = [] := S.canon_eq (S.inter_canon _ _) S.canon_nil fun p => by
  rw [S.inter_has, mA_has k hk, mB_has k hk]
  constructor
  · intro h; omega
  · intro h; exact absurd h (S.has_nil p)
theorem mU_count (k : Nat) (hk : k ≤ 1000) : S.count (S.set (mU k)) = 3 * (k : Int) := by
  rw [S.set_self (mU_canon k hk)]
  unfold mU
  split
  · rename_i h; subst h; rfl
  · simp [S.count]
theorem mU_len (k : Nat) : (mU k).length = if k = 0 then 0 else 1 := by
  unfold mU; split <;> rfl
theorem mN (k : Nat) (hk : k ≤ 1000) : normL (mA k) = (if k ≤ 200 then mA k else []) ∧ normE (mA k) = (if k ≤ 200 then 0 else 30) := by
  unfold normL normE
  rw [S.set_self (mA_canon k hk), mA_length]
  have hall : (mA k).all S.good = true := List.all_eq_true.2 (mA_canon k hk).good
  simp [hall]

set_option maxRecDepth 100000 in
set_option maxHeartbeats 8000000 in
theorem many_any (n : Int) (h0 : 0 ≤ n) (w : World) :
    Calls Try.prog 8 #[.int .u16 n] w fun e w' => e = .returned (.bool true) ∧ Below w.heap.size w w' := by
  obtain ⟨k, hk⟩ : ∃ k : Nat, (k : Int) = n % 230 := ⟨(n % 230).toNat, by omega⟩
  have hk2 : k < 230 := by omega
  have hrem : n.tmod 230 = (k : Int) := by rw [Int.tmod_eq_emod_of_nonneg h0]; omega
  have HK := hide hk
  clear hk
  go_enter Try.func8, Try.ntmps8
  go_wp2_with fail
  refine (known_any w).mono ?_
  rintro e w1 ⟨rfl, hb1⟩
  go_wp2
  go_loopw [4, 5, 6] (fun va vb p wr => ∃ i : Nat, p = .int .i64 (i : Int) ∧ i ≤ k ∧ OwnR wr w1.heap.size 34 va (mA i) ∧ OwnR wr w1.heap.size 34 vb (mB i) ∧ Apt va vb ∧ Below w1.heap.size w1 wr) (fun _ _ p _ => k - (intOf p).toNat)
  case atStart => exact ⟨0, rfl, Nat.zero_le _, ownR_nil _ _ _, ownR_nil _ _ _, (fun g h => by cases h), Below.refl _ _⟩
  case round =>
    obtain ⟨i, rfl, hi, hoa, hob, hap, hB⟩ := hrel
    have hla := mA_length i
    have hlb := mB_length i
    have hsz := hB.size
    by_cases hlt : i < k
    · have HA := hide (mA_succ i)
      have HBs := hide (mB_succ i)
      have c1 : IntKind.i32.wrap (3 * (i : Int)) = 3 * (i : Int) := by simp [IntKind.wrap, IntKind.bits, IntKind.signed]; omega
      have c2 : IntKind.i32.wrap (3 * (i : Int) + 1) = 3 * (i : Int) + 1 := by simp [IntKind.wrap, IntKind.bits, IntKind.signed]; omega
      have c3 : IntKind.i32.wrap (3 * (i : Int) + 2) = 3 * (i : Int) + 2 := by simp [IntKind.wrap, IntKind.bits, IntKind.signed]; omega
      go_wp2_with (first
        | (at_builtin; refine wpl_appR2 Try.underlying22 info34 rfl (.tmp 20) _ rfl w1.heap.size _ (mA i) ⟨wr.heap.size, 0, none⟩ (3 * (i : Int), 3 * (i : Int) + 1) 1 rfl rfl (hoa.later (al1 _ _)) (by simp; omega) (rdr_new _ _ _ _) (by omega) ?_; intro v' w5 hown' hb5 hgr5 hat5)
        | (at_builtin; refine wpl_appR2 Try.underlying22 info34 rfl (.tmp 31) _ rfl w1.heap.size _ (mB i) ⟨w5.heap.size, 0, none⟩ (3 * (i : Int) + 2, 3 * (i : Int) + 2) 1 rfl rfl (((hob.later (al1 wr _)).beside hap hgr5).later (al1 _ _)) (by have := hb5.size; simp at this ⊢; omega) (rdr_new _ _ _ _) (by omega) ?_; intro v6 w6 hown6 hb6 hgr6 hat6))
      have hob1 := (hob.later (al1 wr (.cells #[.int .i32 (3 * (i : Int)), .int .i32 (3 * (i : Int) + 1)] 34)))
      have ap1 := hap.step hob1 hat5
      have hoa6 := OwnR.beside (hown'.later (al1 w5 (.cells #[.int .i32 (3 * (i : Int) + 2), .int .i32 (3 * (i : Int) + 2)] 34))) ap1.symm hgr6
      have ap2 := ap1.symm.step (hown'.later (al1 w5 (.cells #[.int .i32 (3 * (i : Int) + 2), .int .i32 (3 * (i : Int) + 2)] 34))) hat6
      rw [← HA.out] at hoa6
      rw [← HBs.out] at hown6
      refine ⟨⟨i + 1, by go_num, by omega, hoa6, hown6, ap2.symm, ?_⟩, by simp [intOf]; omega⟩
      exact (((nx hB (al1 _ _)).trans hb5).trans ((al1 w5 _).mono (by have := hb5.size; simp at this; omega))).trans hb6
    · obtain rfl : i = k := by omega
      obtain ⟨aa, ca, rfl, _, _, hra⟩ := hoa.rd
      obtain ⟨ab, cb, rfl, _, _, hrb⟩ := hob.rd
      have hN := norm_any aa ca (mA i) (by omega) wr hra
      rw [(mN i (by omega)).1, (mN i (by omega)).2] at hN
      have hU := fun W h h' => union_any aa ab ca cb (mA i) (mB i) (by omega) W h h'
      rw [mU_set i (by omega)] at hU
      have hI := fun W h h' => inter_any aa ab ca cb (mA i) (mB i) (by omega) (by omega) W h h'
      rw [mI_nil i (by omega)] at hI
      have hmu := mU_len i
      have hC := fun a c W h => count_any a c (mU i) (by rw [hmu]; split <;> omega) W h
      rw [mU_count i (by omega)] at hC
      obtain ⟨m, hm⟩ : ∃ m : Nat, (mU i).length = m := ⟨_, rfl⟩
      rw [hm] at hmu
      have hmin : (if (1 : Int) < (i : Int) then (1 : Int) else (i : Int)) = (m : Int) := by
        rw [hmu]
        by_cases hz : i = 0
        · simp [hz]
        · by_cases h1 : i = 1
          · simp [h1]
          · rw [if_pos (by omega), if_neg hz]; rfl
      have hm1 : m ≤ 1 := by rw [hmu]; split <;> omega
      have HM := hide hm
      have HU := hide hmu
      have hU' : ∀ W, RdR W aa (mA i) → RdR W ab (mB i) → Calls Try.prog 17 #[.slice aa i ca, .slice ab i cb] W (fun e W' => ∃ a c, e = .returned (.slice a m c) ∧ RdR W' a (mU i) ∧ Below W.heap.size W W') := fun W h h' => by
        have := hU W h h'
        rw [hla, hlb] at this
        refine this.mono ?_
        rintro e W' ⟨a, c, he, hr, _, hb⟩
        rw [hm] at he
        exact ⟨a, c, he, hr, hb⟩
      have hC' : ∀ a c W, RdR W a (mU i) → Calls Try.prog 27 #[.slice a m c] W (fun e W' => e = .returned (.int .i64 (3 * (i : Int))) ∧ Below W.heap.size W W') := fun a c W h => by
        have := hC a c W h
        rw [hm] at this
        exact this
      have hI' : ∀ W, RdR W aa (mA i) → RdR W ab (mB i) → Calls Try.prog 19 #[.slice aa i ca, .slice ab i cb] W (fun e W' => ∃ a c, e = .returned (.slice a 0 c) ∧ Below W.heap.size W W') := fun W h h' => by
        have := hI W h h'
        rw [hla, hlb] at this
        refine this.mono ?_
        rintro e W' ⟨a, c, he, _, _, hb⟩
        exact ⟨a, c, he, hb⟩
      rw [hla] at hN
      rw [hla, hlb]
      have hB1 := nx hb1 hB
      clear hmu hm hoa hob hU hC hI hap
      by_cases hbig : i ≤ 200
      · rw [if_pos hbig, if_pos hbig, hla] at hN
        go_wp2_with fail
        refine hN.mono ?_
        clear hN
        rintro e w3 ⟨a3, c3, rfl, _, _, hb3⟩
        replace hra := hra.later hb3
        replace hrb := hrb.later hb3
        replace hB1 := nx hB1 hb3
        go_wp2_with fail
        refine (hU' w3 hra hrb).mono ?_
        clear hU'
        rintro e w4 ⟨a4, c4, rfl, hr4, hb4⟩
        replace hra := hra.later hb4
        replace hrb := hrb.later hb4
        replace hB1 := nx hB1 hb4
        go_wp2_with fail
        refine (hC' a4 c4 w4 hr4).mono ?_
        clear hC'
        rintro e w5 ⟨rfl, hb5⟩
        replace hra := hra.later hb5
        replace hrb := hrb.later hb5
        replace hB1 := nx hB1 hb5
        go_wp2_with fail
        refine (hI' w5 hra hrb).mono ?_
        clear hI'
        rintro e w6 ⟨a6, c6, rfl, hb6⟩
        go_wp2
        go_ret
        exact ⟨rfl, nx hB1 hb6⟩
      · rw [if_neg hbig, if_neg hbig] at hN
        obtain rfl : m = 1 := by rw [HU.out, if_neg (by omega)]
        have hbig' : 200 < i := by omega
        simp only [List.length_nil] at hN
        go_wp2_with fail
        refine hN.mono ?_
        clear hN
        rintro e w3 ⟨a3, c3, rfl, _, _, hb3⟩
        replace hra := hra.later hb3
        replace hrb := hrb.later hb3
        replace hB1 := nx hB1 hb3
        go_wp2_with fail
        refine (hU' w3 hra hrb).mono ?_
        clear hU'
        rintro e w4 ⟨a4, c4, rfl, hr4, hb4⟩
        go_wp2
        go_ret
        exact ⟨rfl, nx hB1 hb4⟩
end Go.Proofs.Ytenheagfijocjaa
