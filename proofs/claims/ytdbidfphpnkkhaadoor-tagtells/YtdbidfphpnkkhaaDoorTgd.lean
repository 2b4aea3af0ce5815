/- Is, Parent, Parts of tag. -/
import Derived.Test.YtdbidfphpnkkhaaDoorTgc
import Derived.Test.YtdbidfphpnkkhaaDoorTgr
namespace Go.Proofs.YtdbidfphpnkkhaaDoor
open Go.RowKit Go.Shelf
attribute [local go_sem] Oper.semAt_some

set_option maxHeartbeats 1000000 in
theorem is_any (s : List UInt8) (hl : s.length ≤ 9223372036854775807) (w : World) (hA : AF w) : Calls Tryd.prog 11 #[tx s] w fun e W' => e = .returned (.bool (G.isT s)) ∧ Below w.heap.size w W' := by
  have h := canon_any s hl w hA
  clear hA
  unfold tx at *
  have HI : Hid (G.isT s = (G.canon s == some s)) := hide rfl
  generalize G.isT s = b at *
  go_enter Tryd.func11, Tryd.ntmps11
  go_wp2_with fail
  refine h.mono ?_
  rintro e w1 ⟨⟨t, ht, rfl⟩ | ⟨ht, rfl⟩, hb⟩
  · have HB : Hid (b = (t == s)) := hide (by rw [HI.out, ht]; rfl)
    clear h ht HI
    unfold tx
    go_wp2
    go_ret
    exact ⟨by rw [HB.out]; rfl, hb⟩
  · have HB : Hid (b = false) := hide (by rw [HI.out, ht]; rfl)
    clear h ht HI
    unfold tx
    go_wp2
    go_ret
    exact ⟨by rw [HB.out]; rfl, hb⟩
/-- The last hyphen. -/
theorem last_idx (s : List UInt8) : Lib.lastIndexByte ⟨s.toArray⟩ 45 = match s.reverse.findIdx? (· == 45) with | none => -1 | some i => ((s.length - 1 - i : Nat) : Int) := by
  have hg : ∀ j, j < s.length → (⟨s.toArray⟩ : ByteArray).data[j]! = s[j]! := fun j hj => by simp
  have hc : ∀ c : UInt8, ((c.toNat : Int) = 45) ↔ c = 45 := fun c => ⟨fun h => UInt8.toNat_inj.1 (by show c.toNat = 45; omega), fun h => by rw [h]; rfl⟩
  rcases Lib.lastIndexByte_spec ⟨s.toArray⟩ 45 with ⟨e, h⟩ | ⟨i, hi, e, h1, h2⟩
  · rw [e]
    have : s.reverse.findIdx? (· == 45) = none := by
      rw [List.findIdx?_eq_none_iff]
      intro c hc'
      obtain ⟨j, hj, rfl⟩ := List.mem_iff_getElem.1 (List.mem_reverse.1 hc')
      have := h j (by rw [sz_tx]; exact hj)
      rw [hg j hj, getElem!_pos s j hj] at this
      simp
      intro h3
      exact this ((hc _).2 h3)
    rw [this]
  · rw [sz_tx] at hi
    rw [e]
    rw [hg i hi, getElem!_pos s i hi] at h1
    have hh := (hc _).1 h1
    have : s.reverse.findIdx? (· == 45) = some (s.length - 1 - i) := by
      rw [List.findIdx?_eq_some_iff_getElem]
      refine ⟨by rw [List.length_reverse]; omega, ?_, ?_⟩
      · rw [List.getElem_reverse]
        have : s.length - 1 - (s.length - 1 - i) = i := by omega
        simp only [this, hh]
        rfl
      · intro j hj
        rw [List.getElem_reverse]
        have := h2 (s.length - 1 - j) (by omega) (by rw [sz_tx]; omega)
        rw [hg _ (by omega), getElem!_pos s _ (by omega)] at this
        simp
        exact fun h3 => this ((hc _).2 h3)
    rw [this]
    simp only
    congr 1
    omega
set_option maxRecDepth 100000 in
set_option maxHeartbeats 1000000 in
theorem parent_any (s : List UInt8) (hl : s.length ≤ 9223372036854775807) (w : World) (hA : AF w) : Calls Tryd.prog 13 #[tx s] w fun e W' => e = .returned (tx (G.parent s)) ∧ Below w.heap.size w W' := by
  have h := is_any s hl w hA
  have hs := sz_tx s
  clear hA
  unfold tx at *
  cases hI : G.isT s with
  | false =>
    have HP : Hid (G.parent s = []) := hide (G.parent_none hI)
    rw [hI] at h
    clear hI
    go_enter Tryd.func13, Tryd.ntmps13
    go_wp2_with fail
    refine h.mono ?_
    rintro e w1 ⟨rfl, hb⟩
    go_wp2
    go_ret
    exact ⟨by rw [HP.out]; rfl, hb⟩
  | true =>
    rw [hI] at h
    by_cases hr : s = G.rootB
    · have HP : Hid (G.parent s = []) := hide (by rw [hr]; exact G.parent_root)
      have e1 : (s == [114, 111, 111, 116]) = true := by rw [hr]; rfl
      clear hI hr
      go_enter Tryd.func13, Tryd.ntmps13
      go_wp2_with fail
      refine h.mono ?_
      rintro e w1 ⟨rfl, hb⟩
      go_wp2
      go_ret
      exact ⟨by rw [HP.out]; rfl, hb⟩
    · have e1 : (s == [114, 111, 111, 116]) = false := by
        rw [beq_eq_false_iff_ne]
        exact hr
      have HP : Hid (G.parent s = match s.reverse.findIdx? (· == 45) with | none => G.rootB | some i => s.take (s.length - 1 - i)) := hide (by
        unfold G.parent
        rw [if_neg (by rintro (h | h); (rw [hI] at h; cases h); exact hr h)]
        cases s.reverse.findIdx? (· == 45) <;> rfl)
      have h40 : s.length ≤ 40 := by
        obtain ⟨_, _, _, h4, _⟩ := G.isT_cases hI hr
        exact h4
      have hlb : ∀ W, Calls Tryd.prog 31 #[.string ⟨s.toArray⟩, .int .u8 45] W fun e w' => e = .returned (.int .i64 (Lib.lastIndexByte ⟨s.toArray⟩ 45)) ∧ w' = W := fun W => Any.strings_LastIndexByte lays149 ⟨s.toArray⟩ 45 (by rw [sz_tx]; omega) W
      have HL := hide (last_idx s)
      clear hI hr
      cases hf : s.reverse.findIdx? (· == 45) with
      | none =>
        rw [hf] at HP HL
        have HP2 : Hid (G.parent s = G.rootB) := hide HP.out
        have hL2 : Lib.lastIndexByte ⟨s.toArray⟩ 45 = -1 := HL.out
        rw [hL2] at hlb
        clear hf HP HL hL2
        go_enter Tryd.func13, Tryd.ntmps13
        go_wp2_with fail
        refine h.mono ?_
        rintro e w1 ⟨rfl, hb⟩
        go_wp2_with fail
        refine (hlb w1).mono ?_
        rintro e w2 ⟨rfl, rfl⟩
        go_wp2
        go_ret
        exact ⟨by rw [HP2.out]; rfl, hb⟩
      | some i =>
        rw [hf] at HP HL
        have HP2 : Hid (G.parent s = s.take (s.length - 1 - i)) := hide HP.out
        have hL2 : Lib.lastIndexByte ⟨s.toArray⟩ 45 = ((s.length - 1 - i : Nat) : Int) := HL.out
        obtain ⟨q, hq⟩ : ∃ q, q = s.length - 1 - i := ⟨_, rfl⟩
        rw [← hq] at HP2 hL2
        rw [hL2] at hlb
        have hql : q ≤ s.length := by omega
        have e2 := ext_tx s 0 q
        rw [List.drop_zero, Nat.sub_zero] at e2
        have hcl := fun W => clone_any ⟨(s.take q).toArray⟩ (by rw [sz_tx, List.length_take]; omega) W
        clear hf HP HL hL2 hq
        go_enter Tryd.func13, Tryd.ntmps13
        go_wp2_with fail
        refine h.mono ?_
        rintro e w1 ⟨rfl, hb⟩
        go_wp2_with fail
        refine (hlb w1).mono ?_
        rintro e w2 ⟨rfl, rfl⟩
        go_wp2_with fail
        refine (hcl w2).mono ?_
        rintro e w3 ⟨rfl, hb3⟩
        go_wp2
        go_ret
        exact ⟨by rw [HP2.out]; rfl, nx hb hb3⟩
/-- Parts's memory between the rounds. -/
structure PO (w : World) (P l e0 : Nat) (r : Loop) (ss : List (List UInt8)) (A : World) : Prop where
  own : ∃ v, A.heap[P]? = some (.cells #[v] 30) ∧ OwnN A e0 v ss
  rec_ : A.heap[l + 1]? = some (.loop r)
  def_ : A.heap[l]? = some (.deferred (some []))
  below : Below w.heap.size w A
  le : e0 ≤ A.heap.size
section
variable {w : World} {P l e0 : Nat} {r rb : Loop} {ss : List (List UInt8)} {A : World}
theorem PO.grow (h : PO w P l e0 r ss A) {B : World} (hb : Below A.heap.size A B) : PO w P l e0 r ss B := by
  obtain ⟨⟨v, h2, h2'⟩, h4, h5, h7, h8⟩ := h
  have hk : ∀ (i : Nat) (o : Obj), A.heap[i]? = some o → B.heap[i]? = some o := fun i o hi => (hb.block i (Array.getElem?_eq_some_iff.1 hi).1).trans hi
  exact ⟨⟨v, hk _ _ h2, h2'.later hb⟩, hk _ _ h4, hk _ _ h5, nx h7 hb, Nat.le_trans h8 hb.size⟩
theorem PO.busy (h : PO w P l e0 r ss A) (hP : w.heap.size ≤ P) (hl : P < l) (he : l + 2 ≤ e0) : PO w P l e0 rb ss (A.putObj (l + 1) (.loop rb)) := by
  obtain ⟨⟨v, h2, h2'⟩, h4, h5, h7, h8⟩ := h
  have hne : ∀ k, k ≠ l + 1 → (A.putObj (l + 1) (.loop rb)).heap[k]? = A.heap[k]? := fun k hk => World.putObj_heap_other hk
  exact ⟨⟨v, (hne _ (by omega)).trans h2, h2'.same fun g o hg ho => (hne g (by omega)).trans ho⟩, World.putObj_heap_same (Array.getElem?_eq_some_iff.1 h4).1, (hne _ (by omega)).trans h5, h7.trans (below_put _ _ (by omega)), by rw [World.putObj_size]; exact h8⟩
theorem PO.next (h : PO w P l e0 rb ss A) (hP : w.heap.size ≤ P) (hl : P < l) (he : l + 2 ≤ e0) {v v' : Value} {tmp : Obj} {w1 : World} {x : List UInt8} (hv : OwnN A e0 v ss)
    (hown : w1.ownsRow e0 9 1 v' (ss.length + 1) (ss.map tx ++ [tx x])) (hg : (A.alloc tmp).grownBy w1 v.ownBlock) :
    (w1.setCell ⟨P, 0, none⟩ v').heap[l + 1]? = some (.loop rb) ∧ PO w P l e0 r (ss ++ [x]) ((w1.setCell ⟨P, 0, none⟩ v').putObj (l + 1) (.loop r)) := by
  have hle := h.le
  have hlow : ∀ i, i < e0 → w1.heap[i]? = A.heap[i]? := fun i hi =>
    (hg.block i (by simp; omega) (fun e => by have := hv.block i e.symm; omega)).trans (Below.heap_alloc _ _ _ (by omega))
  have hs1 : A.heap.size ≤ w1.heap.size := Nat.le_trans (by simp) hg.size
  obtain ⟨u, p0, _⟩ := h.own
  have g0 : w1.heap[P]? = some (.cells #[u] 30) := (hlow P (by omega)).trans p0
  have m : ∀ i, i ≠ P → (w1.setCell ⟨P, 0, none⟩ v').heap[i]? = w1.heap[i]? := fun i h1 => set_ne _ h1
  have ml := (m (l + 1) (by omega)).trans ((hlow _ (by omega)).trans h.rec_)
  have hbw : Below w.heap.size w (w1.setCell ⟨P, 0, none⟩ v') := by
    have hb := h.below
    have h1 : Below w.heap.size w w1 := ⟨hg.os.trans hb.os, hg.tape.trans hb.tape, hg.output.trans hb.output, Nat.le_trans hb.size hs1, fun i hi => (hlow i (by omega)).trans (hb.block i hi)⟩
    exact h1.setCell (p := ⟨P, 0, none⟩) (by show w.heap.size ≤ P; omega) _
  refine ⟨ml, PO.busy (r := rb) ⟨⟨v', set_one g0 _, ?_⟩, ml, (m _ (by omega)).trans ((hlow _ (by omega)).trans h.def_), hbw, by rw [set_sz]; omega⟩ hP hl he⟩
  have : OwnN w1 e0 v' (ss ++ [x]) := by
    unfold OwnN
    rw [List.map_append, List.length_append]
    exact hown
  exact this.same fun g o hg ho => (m g (by omega)).trans ho
end
set_option maxRecDepth 100000 in
set_option maxHeartbeats 4000000 in
theorem parts_in (s : List UInt8) (hI : G.isT s = true) (hl : s.length ≤ 9223372036854775807) (w : World) (hA : AF w) : CallsIn Fence.wide 6 Tryd.prog 15 #[tx s] w fun e W' => ∃ u, e = .returned u ∧ OwnN W' w.heap.size u (G.cut s) ∧ Below w.heap.size w W' := by
  obtain ⟨i0, hi0, hz0, hz1, hz2⟩ := info_parts9 info9N
  have h40 : s.length ≤ 40 := by
    by_cases hr : s = G.rootB
    · rw [hr]; decide
    · obtain ⟨_, _, _, h4, _⟩ := G.isT_cases hI hr
      exact h4
  have his := is_any s hl w hA
  rw [hI] at his
  have hmk := fun W => sub_make s W
  have hcl := size_parts s
  have HCX := hide (cut_lens s)
  clear hI hA hl
  unfold tx at *
  refine callsIn_of_wp_marks Tryd.func15 rfl trivial ?_ rfl
  simp only [Tryd.ntmps15, List.size_toArray, List.length_cons, List.length_nil, Nat.reduceAdd, Nat.reduceSub, Array.replicate_succ, Array.replicate_zero, List.push_toArray, List.append_toArray, List.nil_append, List.cons_append]
  gi_wp2_with (refine ⟨trivial, ?_⟩; gi_at_call 11; refine (callsIn_wide.2 his).mono ?_; rintro e w1 ⟨rfl, hb⟩)
  have a1 := al1 w1 (.cells #[.slice none 0 0] 30)
  have k1 := heap_alloc_new w1 (.cells #[.slice none 0 0] 30)
  have s1 := World.size_alloc w1 (.cells #[.slice none 0 0] 30)
  obtain ⟨X1, hX1⟩ : ∃ X1, w1.alloc (.cells #[.slice none 0 0] 30) = X1 := ⟨_, rfl⟩
  rw [hX1] at a1 k1 s1 ⊢
  refine ⟨trivial, (callsIn_wide.2 (hmk X1)).mono ?_⟩
  rintro e X3 ⟨rfl, hX3⟩
  have a3 := al1 X1 (.cells #[.string ⟨s.toArray⟩] 9)
  have k3 := heap_alloc_new X1 (.cells #[.string ⟨s.toArray⟩] 9)
  have s3 := World.size_alloc X1 (.cells #[.string ⟨s.toArray⟩] 9)
  rw [← hX3] at a3 k3 s3
  have kP := (a3.block _ (by omega)).trans k1
  have bX := nx hb (nx a1 a3)
  have hwz := hb.size
  have hsz : X3.heap.size = w1.heap.size + 2 := by omega
  have hP2 : X1.heap.size = w1.heap.size + 1 := by omega
  rw [hP2] at k3
  simp only [hP2]
  have HSZ := hide hsz
  clear hX1 hX3 a1 a3 k1 s1 s3 hmk hP2 hsz his hb
  gi_wp2
  refine enter3 (gf := 34) (lb := #[.pointer (some ⟨w1.heap.size + 1, 0, none⟩)]) rfl (enters_of Tryd.func34 (by kernel_rfl) rfl) ?_
  intro r We hr hrec hdef hszE hbE
  have bE := nx bX hbE
  have h3 : X3.heap.size = w1.heap.size + 2 := HSZ.out
  have hl2 : w1.heap.size < X3.heap.size := by omega
  refine (sub1_in 5 (by omega) s (by omega) (X3.heap.size + 1) (w1.heap.size + 1)
    (fun i A => PO w w1.heap.size X3.heap.size We.heap.size r ((G.cut s).take i) A)
    (fun _ _ => False) We ((hbE.block _ (by omega)).trans k3) (fun i A B h hb => h.grow hb) ?round ⟨⟨_, (hbE.block _ (by omega)).trans kP, ownN_nil _ _⟩, hrec.out, hdef.out, bE, Nat.le_refl _⟩).mono ?_
  case round =>
    rintro i hi A hPO
    have HT : Hid ((G.cut s).take (i + 1) = (G.cut s).take i ++ [(G.cut s)[i]]) := hide (List.take_succ_eq_append_getElem hi)
    have hxl := HCX.out (G.cut s)[i] (List.getElem_mem hi)
    rw [HT.out]
    have hs41 : ((G.cut s).take i).length ≤ 41 := by rw [List.length_take]; omega
    generalize (G.cut s)[i] = x at *
    generalize (G.cut s).take i = ss at *
    have hle : X3.heap.size + 2 ≤ We.heap.size := by omega
    clear hrec hdef bE hszE hbE bX k3 kP h3 HT
    generalize w1.heap.size = P at *
    generalize X3.heap.size = l at *
    generalize We.heap.size = e0 at *
    have j5 := hPO.rec_
    refine yield3 hr j5 rfl ?_
    gi_wp2
    intro rb
    have hC1 := hPO.busy (rb := rb) hwz hl2 hle
    clear hPO j5 hr
    generalize A.putObj (l + 1) (.loop rb) = A1 at *
    obtain ⟨v, hv, hO⟩ := hC1.own
    have hPz : P < A1.heap.size := (Array.getElem?_eq_some_iff.1 hv).1
    gi_wp2
    refine Rst.startR 5 (fun w' => w'.heap[P]? = some (.cells #[v] 30)) (by kernel_rfl) (by kernel_rfl) (by rintro ⟨_, _, h⟩; exact h) ?_
    refine Rst.take (fun _ _ _ _ _ h => h) 0 _ 11 v rfl (by kernel_rfl) rfl (by kernel_rfl) (by kernel_rfl) hv (fun w' hw => Reg.ldS rfl rfl (cell_one hw) (Tryd.isAgg30 _)) ?_
    refine Rst.take (fun _ _ _ _ _ h => h) 1 _ 12 (tx x) rfl (by kernel_rfl) rfl (by kernel_rfl) (by kernel_rfl) hv (fun w' hw => by kernel_rfl) ?_
    refine Rst.call 2 _ 13 24 _ _ #[tx x] rfl (by kernel_rfl) rfl (by kernel_rfl) (by kernel_rfl) rfl (by kernel_rfl) (by kernel_rfl) (clone_any ⟨x.toArray⟩ (by rw [sz_tx]; omega) A1.drew) ?_
    rintro e w5 ⟨rfl, hb5⟩
    have hb5' : Below A1.heap.size A1 w5 := (Below.refl A1.heap.size A1).drew.trans hb5
    have hC5 := hC1.grow hb5'
    have hO5 := hO.later hb5'
    have p5 := (hb5'.block _ hPz).trans hv
    refine ⟨_, rfl, p5, ?_⟩
    have le5 := hC5.le
    have a6 := al1 w5 (.cells #[tx x] 9)
    refine Rst.only 3 _ 14 rfl (by kernel_rfl) rfl (by kernel_rfl) (by kernel_rfl) ⟨.slice (some ⟨w5.heap.size, 0, none⟩) 1 1, w5.alloc (.cells #[tx x] 9), Reg.bs (vs := #[(0, tx x)]) (cs := #[tx x]) i0 (.string ByteArray.empty) rfl (by kernel_rfl) Tryd.underlying30 hi0 hz0 (by rw [hz1]; decide) (by rw [hz1]; decide) (by rw [hz1]; kernel_rfl), (a6.block _ (Array.getElem?_eq_some_iff.1 p5).1).trans p5, ?_⟩
    have o6 : OwnN (w5.alloc (.cells #[tx x] 9)) e0 v ss := hO5.later a6
    obtain ⟨v', w7, hrun, hown, hgrow, _, hat⟩ := run_append_own_at (P := Tryd.prog) (w5.alloc (.cells #[tx x] 9)) e0 30 30 9 i0 (.string ByteArray.empty) 1 16 Tryd.underlying30 hi0 hz0 hz1 hz2 rfl (by decide) v ss.length (ss.map tx) o6 ⟨w5.heap.size, 0, none⟩ 1 1 [tx x] rfl (one_new _ _ _) (by simp [Value.oneCell']) (by unfold maxLen; omega) (by omega) (by simp; omega)
    have p7 : w7.heap[P]? = some (.cells #[v] 30) := (hgrow.block P (by simp; have := (Array.getElem?_eq_some_iff.1 p5).1; omega) (fun e => by have := hO5.block P e.symm; omega)).trans ((Below.heap_alloc _ _ _ (Array.getElem?_eq_some_iff.1 p5).1).trans p5)
    refine Rst.only 4 _ 15 rfl (by kernel_rfl) rfl (by kernel_rfl) (by kernel_rfl) ⟨v', w7, Reg.app rfl rfl rfl hrun, p7, ?_⟩
    obtain ⟨g', cap', rfl⟩ := ownsRow_succ hown
    have fin := hC5.next (r := r) hwz hl2 hle hO5 hown hgrow
    refine Rst.last _ rfl (by kernel_rfl) rfl (by kernel_rfl) (by kernel_rfl) ⟨_, Reg.st1 rfl rfl rfl (cell_one p7) (froz_one p7) (.inr ⟨_, _, _, rfl⟩) (Tryd.sizeOf30 _), ?_⟩
    refine Rst.done (by kernel_rfl) ?_
    exact ⟨fin.1, rfl, fin.2⟩
  rintro e W' ⟨hv, h⟩
  refine ⟨hv, ?_⟩
  rcases h with hPO | ⟨_, _, h⟩
  · rw [List.take_length] at hPO
    refine .inl ⟨hPO.rec_, fun r' => ?_⟩
    have hC1 := hPO.busy (rb := r') hwz hl2 (by omega)
    have hWe : X3.heap.size + 2 ≤ We.heap.size := by omega
    clear hPO hrec hdef bE hszE hbE bX k3 kP h3 hr
    generalize W'.putObj (X3.heap.size + 1) (.loop r') = W9 at *
    obtain ⟨v, hv, hO⟩ := hC1.own
    have cP := cell_one hv
    have hd := hC1.def_
    have hbb := hC1.below
    have hle := hC1.le
    clear hC1
    gi_wp2
    refine ⟨by simp, .inl ⟨_, _, rfl, run_takeDeferred hd, ?_⟩⟩
    exact ⟨_, results_tmp rfl _ _ _, v, rfl, (show OwnN _ We.heap.size v (G.cut s) from hO.same fun g o hg ho => (World.putObj_heap_other (by omega)).trans ho).low (by omega), hbb.trans (below_put _ _ (by omega))⟩
  · exact h.elim
theorem parts_any (s : List UInt8) (hl : s.length ≤ 9223372036854775807) (w : World) (hA : AF w) : Calls Tryd.prog 15 #[tx s] w fun e W' => ∃ u, e = .returned u ∧ OwnN W' w.heap.size u (G.parts s) ∧ Below w.heap.size w W' := by
  cases hI : G.isT s with
  | true =>
    rw [show G.parts s = G.cut s by unfold G.parts; rw [if_pos hI]]
    exact callsIn_wide.1 (parts_in s hI hl w hA)
  | false =>
    rw [show G.parts s = [] by unfold G.parts; rw [if_neg (by rw [hI]; decide)]]
    have h := is_any s hl w hA
    rw [hI] at h
    clear hA hI
    unfold tx at *
    go_enter Tryd.func15, Tryd.ntmps15
    go_wp2_with fail
    refine h.mono ?_
    rintro e w1 ⟨rfl, hb⟩
    go_wp2
    go_ret
    exact ⟨_, rfl, ownN_nil _ _, hb⟩
end Go.Proofs.YtdbidfphpnkkhaaDoor
