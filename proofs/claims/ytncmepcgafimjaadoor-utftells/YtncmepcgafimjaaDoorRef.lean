/- What the reference's one and Runes answer: the same code points, places and word on well-formedness as the plain facts tell. -/
import Derived.Test.YtncmepcgafimjaaDoorOne
import Derived.Test.YtncmepcgafimjaaDoorPut
namespace Go.Proofs.YtncmepcgafimjaaDoor
open Go.RowKit
namespace M
open Go.Lib
theorem one_bad {bs : List UInt8} (h : dec bs = (65533, 1)) : one bs = (0, 0) := by unfold one; rw [h]; rfl
theorem one_good {bs : List UInt8} {p n : Nat} (h : dec bs = (p, n)) (hn : 1 < n ∨ p < 128) : one bs = (p, n) := by
  unfold one
  rw [h]
  have : ok (p, n) = true := by
    unfold ok
    rcases hn with hn | hn
    · simp [hn]
    · have : ¬ p = 65533 := by omega
      simp [this]
  rw [if_pos this]
end M

theorem cells_of {ao : Option Addr} {bs : List UInt8} {w : World} (hc : Rd w ao (cB bs)) : ∀ t, t < bs.length → ∃ b off, ao = some ⟨b, off, none⟩ ∧ w.cell? ⟨b, off + t, none⟩ = some (.int .u8 ((bs.getD t 0).toNat : Int)) := by
  intro t ht
  obtain ⟨b, off, e, h⟩ := hc.byte t ht
  exact ⟨b, off, e, by rw [h, List.getD_eq_getElem?_getD, List.getElem?_eq_getElem ht]; rfl⟩

set_option maxRecDepth 100000 in
set_option maxHeartbeats 1000000 in
theorem one_ascii (ao : Option Addr) (cap : Nat) (bs : List UInt8) (c : Nat) (w : World) (hl : bs.length ≤ 100000) (hb : 1 ≤ bs.length) (hc : Rd w ao (cB bs)) (h0 : (bs.getD 0 0).toNat = c) (h1 : c < 128) :
    Calls Tryd.prog 17 #[.slice ao bs.length cap] w fun e w' => e = .returned (.tuple #[.int .i32 (c : Nat), .int .i64 1]) ∧ w = w' := by
  obtain ⟨b, off, rfl, hc0⟩ := cells_of hc 0 (by omega)
  rw [h0, Nat.add_zero] at hc0
  clear h0
  go_enter Tryd.func17, Tryd.ntmps17
  go_wp2
  go_ret2
  exact ⟨rfl, rfl⟩
set_option maxRecDepth 100000 in
set_option maxHeartbeats 1000000 in
theorem one_none (ao : Option Addr) (cap : Nat) (bs : List UInt8) (c : Nat) (w : World) (hl : bs.length ≤ 100000) (hb : 1 ≤ bs.length) (hc : Rd w ao (cB bs)) (h0 : (bs.getD 0 0).toNat = c) (h1 : (128 ≤ c ∧ c < 192) ∨ (248 ≤ c ∧ c < 256)) :
    Calls Tryd.prog 17 #[.slice ao bs.length cap] w fun e w' => e = .returned (.tuple #[.int .i32 0, .int .i64 0]) ∧ w = w' := by
  obtain ⟨b, off, rfl, hc0⟩ := cells_of hc 0 (by omega)
  rw [h0, Nat.add_zero] at hc0
  clear h0
  rcases h1 with ⟨h1, h2⟩ | ⟨h1, h2⟩
  all_goals
    go_enter Tryd.func17, Tryd.ntmps17
    go_wp2
    go_ret2
    exact ⟨rfl, rfl⟩

set_option maxHeartbeats 4000000 in
theorem one_any (ao : Option Addr) (cap : Nat) (bs : List UInt8) (w : World) (hl : bs.length ≤ 100000) (hb : 1 ≤ bs.length) (hc : Rd w ao (cB bs)) :
    Calls Tryd.prog 17 #[.slice ao bs.length cap] w fun e w' => e = .returned (.tuple #[.int .i32 ((M.one bs).1 : Nat), .int .i64 ((M.one bs).2 : Nat)]) ∧ w = w' := by
  have hd : M.dec bs = Lib.decodeN bs.length (bs.getD 0 0).toNat (bs.getD 1 0).toNat (bs.getD 2 0).toNat (bs.getD 3 0).toNat := rfl
  have hx0 := UInt8.toNat_lt (bs.getD 0 0)
  by_cases h1 : (bs.getD 0 0).toNat < 128
  · have e : M.dec bs = ((bs.getD 0 0).toNat, 1) := by rw [hd]; unfold Lib.decodeN; rw [if_pos h1]
    rw [M.one_good e (.inr h1)]
    exact one_ascii ao cap bs _ w hl hb hc rfl h1
  by_cases h2 : (bs.getD 0 0).toNat < 192 ∨ 248 ≤ (bs.getD 0 0).toNat
  · have e : M.dec bs = (65533, 1) := by
      rw [hd]; unfold Lib.decodeN
      rw [if_neg (by omega), if_neg (by omega), if_neg (by omega), if_neg (by omega)]
    rw [M.one_bad e]
    exact one_none ao cap bs _ w hl hb hc rfl (by omega)
  by_cases h3 : (bs.getD 0 0).toNat < 224
  · refine one_two ao cap bs _ (M.one bs) w hl hb hc rfl (by omega) h3 (fun h => M.one_bad ?_) (fun t a b h => M.one_bad ?_) (fun h ht => ?_)
    · rw [hd]; unfold Lib.decodeN
      rw [if_neg (by omega), if_neg (by omega), if_neg (by omega), if_neg (by omega)]
    · obtain rfl : t = 1 := by omega
      rw [hd]; unfold Lib.decodeN
      rw [if_neg (by omega), if_neg (by omega), if_neg (by omega), if_neg (by omega)]
    · have t1 := ht 1 (by omega) (by omega)
      have ea : M.acc ((bs.getD 0 0).toNat % 32) bs 2 = (bs.getD 0 0).toNat % 32 * 64 + (bs.getD 1 0).toNat % 64 := rfl
      rw [ea]
      split
      · refine M.one_bad ?_
        rw [hd]; unfold Lib.decodeN
        rw [if_neg (by omega), if_pos (by omega), if_neg (by omega)]
      · refine M.one_good ?_ (.inl (by omega))
        rw [hd]; unfold Lib.decodeN
        rw [if_neg (by omega), if_pos (by omega), if_pos (by omega)]
  by_cases h4 : (bs.getD 0 0).toNat < 240
  · refine one_three ao cap bs _ (M.one bs) w hl hb hc rfl (by omega) h4 (fun h => M.one_bad ?_) (fun t a b h => M.one_bad ?_) (fun h ht => ?_)
    · rw [hd]; unfold Lib.decodeN
      rw [if_neg (by omega), if_neg (by omega), if_neg (by omega), if_neg (by omega)]
    · rw [hd]; unfold Lib.decodeN
      have : t = 1 ∨ t = 2 := by omega
      rcases this with rfl | rfl
      all_goals rw [if_neg (by omega), if_neg (by omega), if_neg (by omega), if_neg (by omega)]
    · have t1 := ht 1 (by omega) (by omega)
      have t2 := ht 2 (by omega) (by omega)
      have ea : M.acc ((bs.getD 0 0).toNat % 16) bs 3 = ((bs.getD 0 0).toNat % 16 * 64 + (bs.getD 1 0).toNat % 64) * 64 + (bs.getD 2 0).toNat % 64 := rfl
      rw [ea]
      split
      · refine M.one_bad ?_
        rw [hd]; unfold Lib.decodeN
        rw [if_neg (by omega), if_neg (by omega), if_pos (by omega), if_neg (by omega)]
      · refine M.one_good ?_ (.inl (by omega))
        rw [hd]; unfold Lib.decodeN
        rw [if_neg (by omega), if_neg (by omega), if_pos (by omega), if_pos (by omega)]
        congr 1
        omega
  · refine one_four ao cap bs _ (M.one bs) w hl hb hc rfl (by omega) (by omega) (fun h => M.one_bad ?_) (fun t a b h => M.one_bad ?_) (fun h ht => ?_)
    · rw [hd]; unfold Lib.decodeN
      rw [if_neg (by omega), if_neg (by omega), if_neg (by omega), if_neg (by omega)]
    · rw [hd]; unfold Lib.decodeN
      have : t = 1 ∨ t = 2 ∨ t = 3 := by omega
      rcases this with rfl | rfl | rfl
      all_goals rw [if_neg (by omega), if_neg (by omega), if_neg (by omega), if_neg (by omega)]
    · have t1 := ht 1 (by omega) (by omega)
      have t2 := ht 2 (by omega) (by omega)
      have t3 := ht 3 (by omega) (by omega)
      have ea : M.acc ((bs.getD 0 0).toNat % 8) bs 4 = (((bs.getD 0 0).toNat % 8 * 64 + (bs.getD 1 0).toNat % 64) * 64 + (bs.getD 2 0).toNat % 64) * 64 + (bs.getD 3 0).toNat % 64 := rfl
      rw [ea]
      split
      · refine M.one_bad ?_
        rw [hd]; unfold Lib.decodeN
        rw [if_neg (by omega), if_neg (by omega), if_neg (by omega), if_pos (by omega), if_neg (by omega)]
      · refine M.one_good ?_ (.inl (by omega))
        rw [hd]; unfold Lib.decodeN
        rw [if_neg (by omega), if_neg (by omega), if_neg (by omega), if_pos (by omega), if_pos (by omega)]
        congr 1
        omega

/-- An append as a step of a plain region, with what it leaves alone. -/
theorem wpl_appg {T e : TypeId} {z : Value} {k : Nat} (hT : Tryd.prog.underlying T = some (.slice e)) (hI : (Tryd.prog.info? e).map (fun i => (i.zero, i.size, i.bytes)) = some (some z, 1, k)) (hz : z.cells.size = 1) (hk : k ≤ 8)
    {w : World} {ops : Array Oper} {rest : List Oper} {o : Oper} {a : Act} {Q : Exit → Act → World → Prop} (hgd : o.guard = none) (s x : Operand)
    (hop : o.op = .call { callee := .builtin .append, args := #[s, x], argTypes := #[T, T] })
    (B : Nat) (v : Value) (vs : List Value) (ao : Option Addr) (xs : List Value) (n cap : Nat) (hxl : n = xs.length) (hs : a.eval s = v) (hx : a.eval x = .slice ao n cap)
    (ho : Own w B e v vs) (hB : B ≤ w.heap.size) (hr : Rd w ao xs) (h1 : ∀ u ∈ xs, u.oneCell' = true) (hn : ao = none → cap = 0) (hlen : vs.length + xs.length ≤ 10000000)
    (h : ∀ v' w', Own w' B e v' (vs ++ xs) → Below B w w' → w.grownBy w' v.ownBlock → wpList Tryd.prog ops Q rest (a.put o.dst v') w') : wpList Tryd.prog ops Q (o :: rest) a w := by
  subst hxl
  refine wpList_plain hgd fun K hK => ?_
  obtain ⟨v', w', hrun, h2, h3, h4⟩ := run_app hT hI hz hk w B v vs ao xs cap o.type ho hB hr h1 hn hlen
  unfold Oper.wp
  simp [execOp, hop, resolve, invoke, builtin, hs, hx, hrun, Result.andThen]
  exact hK _ _ (h v' w' h2 h3 h4)

theorem Own.beside {w w' : World} {B : Nat} {e e' : TypeId} {v u : Value} {vs us : List Value} (hu : Own w B e' u us) (hv : Own w B e v vs) (hee : e' ≠ e) (hg : w.grownBy w' v.ownBlock) : Own w' B e' u us := by
  refine World.ownsRow.kept hu hg ?_
  rcases hu.2 with ⟨rfl, _⟩ | ⟨g, cap, cur, rfl, _, hgb, _⟩
  · exact .inl rfl
  · exact .inr (not_row hgb hee hv)

/-- What the reference takes the answer of one for. -/
theorem one_cases (bs : List UInt8) (hb : bs ≠ []) : (M.ok (M.dec bs) = true ∧ M.one bs = M.dec bs ∧ 1 ≤ (M.dec bs).2 ∧ (M.dec bs).2 ≤ bs.length) ∨ (M.ok (M.dec bs) = false ∧ M.one bs = (0, 0) ∧ M.dec bs = (65533, 1)) := by
  have hs := M.dec_size hb
  unfold M.one
  cases h : M.ok (M.dec bs) with
  | true => exact .inl ⟨rfl, if_pos rfl, hs.1, hs.2.1⟩
  | false =>
    refine .inr ⟨rfl, if_neg (by simp), ?_⟩
    unfold M.ok at h
    simp at h
    exact Prod.ext h.1 (by omega)

set_option maxRecDepth 100000 in
set_option maxHeartbeats 4000000 in
theorem refRunes_any (ao : Option Addr) (cap : Nat) (bs : List UInt8) (hl : bs.length ≤ 100000) (hcap : bs.length ≤ cap) (hnil : ao = none → cap = 0) (w : World) (hc : Rd w ao (cB bs)) :
    Calls Tryd.prog 10 #[.slice ao bs.length cap] w fun e W' => ∃ v u, e = .returned (.tuple #[v, u, .bool (M.good bs)]) ∧ Own W' w.heap.size 21 v (cI (M.pts bs)) ∧ Own W' w.heap.size 3 u (cN (M.sts bs)) ∧ Below w.heap.size w W' := by
  have hrl := M.rs_length bs 0
  go_enter Tryd.func10, Tryd.ntmps10
  go_wp2
  go_loopw [5, 6, 7, 8] (fun v u g i wr => ∃ (pre : List M.Sq) (k : Nat), k ≤ bs.length ∧ i = .int .i64 (k : Int) ∧ g = .bool (pre.all fun s => s.2.2) ∧ Hid (M.rs 0 bs = pre ++ M.rs k (bs.drop k)) ∧ Own wr w.heap.size 21 v (cI (ptsOf pre)) ∧ Own wr w.heap.size 3 u (cN (stsOf pre)) ∧ Below w.heap.size w wr) (fun _ _ _ i _ => bs.length - (intOf i).toNat)
  case atStart => exact ⟨[], 0, Nat.zero_le _, rfl, rfl, by rw [List.drop_zero]; exact rfl, own_nil _ _ _, own_nil _ _ _, Below.refl _ _⟩
  case round =>
    obtain ⟨pre, k, hk, rfl, rfl, HP, hv, hu, hb⟩ := hrel
    by_cases hlt : k < bs.length
    · obtain ⟨a1, c1, hr1, _, _, hcut⟩ := cut_from (T := 22) Tryd.underlying22 elemSize22 wr ao (cB bs) bs.length cap k (cB_length bs) hk hcap hnil (hc.later hb)
      obtain ⟨ds, hds⟩ : ∃ ds, ds = bs.drop k := ⟨_, rfl⟩
      have hdl : ds.length = bs.length - k := by rw [hds, List.length_drop]
      rw [show (cB bs).drop k = cB ds by rw [hds]; simp [cB]] at hr1
      rw [← hdl] at hcut
      have hne : ds ≠ [] := by intro e; rw [e] at hdl; simp at hdl; omega
      have HQ : Hid (M.rs 0 bs = pre ++ ((k, (M.dec ds).1, M.ok (M.dec ds)) :: M.rs (k + (M.dec ds).2) (bs.drop (k + (M.dec ds).2)))) := by
        show _ = _
        rw [HP.out, ← hds, M.rs_step k hne, hds, List.drop_drop]
      clear HP
      have hpl : pre.length ≤ bs.length := by have := congrArg List.length HQ.out; rw [List.length_append] at this; omega
      have hD := one_any a1 c1 ds wr (by omega) (by omega) hr1
      have hcs := one_cases ds hne
      have hd1 : k + ds.length ≤ bs.length := by omega
      have hpa := ptsOf_length pre
      have hsa := stsOf_length pre
      have hla : (cI (ptsOf pre)).length ≤ 100000 := by rw [cI_length]; omega
      have hlb : (cN (stsOf pre)).length ≤ 100000 := by rw [cN_length]; omega
      have hall : ∀ g : Bool, (pre ++ [(k, (M.dec ds).1, g)]).all (fun s => s.2.2) = (pre.all (fun s => s.2.2) && g) := by intro g; simp
      clear hds hne hdl hpa hsa hpl
      generalize M.one ds = d1 at *
      generalize M.dec ds = d at *
      obtain ⟨p, m⟩ := d
      rcases hcs with ⟨hok, rfl, hm1, hm2⟩ | ⟨hok, rfl, hdd⟩
      · rw [hok] at HQ
        have HG := hide (hall true)
        rw [Bool.and_true] at HG
        clear hall hok
        simp only at hm1 hm2 hD HQ HG
        have hmz : ((m : Int) == 0) = false := by simp; omega
        generalize (pre.all fun s => s.2.2) = gb at *
        go_wp2_with fail
        refine hD.mono ?_
        rintro e w2 ⟨rfl, rfl⟩
        clear hD hcut hr1
        go_wp2_with (first
          | (at_builtin; refine wpl_appg Tryd.underlying23 info21 rfl (by decide) rfl _ _ rfl w.heap.size _ (cI (ptsOf pre)) (some ⟨wr.heap.size, 0, none⟩) [.int .i32 (p : Int)] 1 1 rfl rfl rfl (hv.later ((Below.refl _ _).alloc (Nat.le_refl _) _)) (by have := hb.size; simp; omega) (rd_new _ _ _ _ _ rfl) (by simp [Value.oneCell']) (fun e => by cases e) (by simp; omega) ?_; intro v3 w3 hv3 hb3 hg3; have hu3 := (hu.later ((Below.refl _ _).alloc (Nat.le_refl _) _)).beside (hv.later ((Below.refl _ _).alloc (Nat.le_refl _) _)) (by decide) hg3; have hB3 : Below w.heap.size w w3 := ((hb.alloc hb.size _).trans hb3))
          | (at_builtin; refine wpl_appg Tryd.underlying25 info3 rfl (by decide) rfl _ _ rfl w.heap.size _ (cN (stsOf pre)) (some ⟨w3.heap.size, 0, none⟩) [.int .i64 (k : Int)] 1 1 rfl rfl rfl (hu3.later ((Below.refl _ _).alloc (Nat.le_refl _) _)) (by have := hB3.size; simp; omega) (rd_new _ _ _ _ _ rfl) (by simp [Value.oneCell']) (fun e => by cases e) (by simp; omega) ?_; intro u4 w4 hu4 hb4 hg4; have hv4 := (hv3.later ((Below.refl _ _).alloc (Nat.le_refl _) _)).beside (hu3.later ((Below.refl _ _).alloc (Nat.le_refl _) _)) (by decide) hg4; have hB4 : Below w.heap.size w w4 := ((hB3.alloc hB3.size _).trans hb4)))
        go_roundw
        case rel => exact ⟨pre ++ [(k, p, true)], k + m, by omega, by go_num, by rw [HG.out], by rw [List.append_assoc]; exact HQ, by rw [ptsOf_snoc, cI_append]; exact hv4, by rw [stsOf_snoc, cN_append]; exact hu4, hB4⟩
        case measure => simp [intOf]; omega
      · cases hdd
        rw [hok] at HQ
        have HG := hide (hall false)
        rw [Bool.and_false] at HG
        clear hall hok
        simp only at hD HQ HG
        generalize (pre.all fun s => s.2.2) = gb at *
        go_wp2_with fail
        refine hD.mono ?_
        rintro e w2 ⟨rfl, rfl⟩
        clear hD hcut hr1
        go_wp2_with (first
          | (at_builtin; refine wpl_appg Tryd.underlying23 info21 rfl (by decide) rfl _ _ rfl w.heap.size _ (cI (ptsOf pre)) (some ⟨wr.heap.size, 0, none⟩) [.int .i32 65533] 1 1 rfl rfl rfl (hv.later ((Below.refl _ _).alloc (Nat.le_refl _) _)) (by have := hb.size; simp; omega) (rd_new _ _ _ _ _ rfl) (by simp [Value.oneCell']) (fun e => by cases e) (by simp; omega) ?_; intro v3 w3 hv3 hb3 hg3; have hu3 := (hu.later ((Below.refl _ _).alloc (Nat.le_refl _) _)).beside (hv.later ((Below.refl _ _).alloc (Nat.le_refl _) _)) (by decide) hg3; have hB3 : Below w.heap.size w w3 := ((hb.alloc hb.size _).trans hb3))
          | (at_builtin; refine wpl_appg Tryd.underlying25 info3 rfl (by decide) rfl _ _ rfl w.heap.size _ (cN (stsOf pre)) (some ⟨w3.heap.size, 0, none⟩) [.int .i64 (k : Int)] 1 1 rfl rfl rfl (hu3.later ((Below.refl _ _).alloc (Nat.le_refl _) _)) (by have := hB3.size; simp; omega) (rd_new _ _ _ _ _ rfl) (by simp [Value.oneCell']) (fun e => by cases e) (by simp; omega) ?_; intro u4 w4 hu4 hb4 hg4; have hv4 := (hv3.later ((Below.refl _ _).alloc (Nat.le_refl _) _)).beside (hu3.later ((Below.refl _ _).alloc (Nat.le_refl _) _)) (by decide) hg4; have hB4 : Below w.heap.size w w4 := ((hB3.alloc hB3.size _).trans hb4)))
        go_roundw
        case rel => exact ⟨pre ++ [(k, 65533, false)], k + 1, by omega, by go_num, by rw [HG.out], by rw [List.append_assoc]; exact HQ, by rw [ptsOf_snoc, cI_append]; exact hv4, by rw [stsOf_snoc, cN_append]; exact hu4, hB4⟩
        case measure => simp [intOf]; omega
    · obtain rfl : k = bs.length := by omega
      have HE : Hid (M.rs 0 bs = pre) := by show _ = _; rw [HP.out, List.drop_length, M.rs_nil, List.append_nil]
      clear HP
      go_wp2
      go_ret3
      refine ⟨u5, u6, ?_, ?_, ?_, hb⟩
      · unfold M.good; rw [HE.out]; rfl
      · unfold M.pts; rw [HE.out]; exact hv
      · unfold M.sts; rw [HE.out]; exact hu
end Go.Proofs.YtncmepcgafimjaaDoor
