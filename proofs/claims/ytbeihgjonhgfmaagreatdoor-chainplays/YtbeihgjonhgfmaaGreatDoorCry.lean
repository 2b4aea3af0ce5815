/- What the law asks of both forests. -/
import Derived.Deep.Upon
import Derived.Test.YtbeihgjonhgfmaaGreatDoorCrx
namespace Go.Proofs.YtbeihgjonhgfmaaGreatDoor
open Go.RowKit Go.Shelf Go.Maps
attribute [local go_sem] Oper.semAt_some
namespace C
theorem wpList_app_run {P : Program} {w w' : World} {ops : Array Oper} {rest : List Oper} {o : Oper} {a : Act} {Q : Exit → Act → World → Prop} (hgd : o.guard = none) (d s : Operand) (t u : TypeId) {vx vy v : Value}
    (ho : o.op = .call { callee := .builtin .append, args := #[d, s], argTypes := #[t, u] }) (hd : a.eval d = vx) (hs : a.eval s = vy) (hrun : (Builtin.append_ #[t, u] o.type #[vx, vy]).run P w = .ok v w')
    (h : wpList P ops Q rest (a.put o.dst v) w') : wpList P ops Q (o :: rest) a w := by
  refine wpList_plain hgd fun K hK => ?_
  unfold Oper.wp
  simp [execOp, ho, resolve, invoke, builtin, hd, hs, hrun, Result.andThen]
  exact hK _ _ h
/-- A row, copied. -/
theorem copyN (ty : TypeId) {W : World} {n0 : Nat} {v : Value} {A : List Tx} (h : OwnN W n0 v A) (hl : A.length ≤ 1000) :
    ∃ v' W', (Builtin.append_ #[30, 30] ty #[.slice none 0 0, v]).run Tryz.prog W = .ok v' W' ∧ OwnN W' W.heap.size v' A ∧ Below W.heap.size W W' := by
  by_cases h0 : A.length = 0
  · obtain rfl : A = [] := List.eq_nil_of_length_eq_zero h0
    obtain ⟨i0, hi0, hz0, hz1, hz2⟩ := info_parts9 info9N
    obtain ⟨_, ⟨rfl, _⟩ | ⟨g, cap, cur, rfl, _⟩⟩ := h
    · refine ⟨.slice none 0 0, W, ?_, ownN_nil _ _, Below.refl _ _⟩
      simp [Builtin.append_, run_underlying Tryz.underlying30, sizeOf, typeInfo, hi0, Builtin.lenOf, Builtin.firstCells]
    · obtain ⟨v', W', r, o, c, _⟩ := appR ty (ownN_nil W W.heap.size) (Nat.le_refl _) (ad := ⟨g, 0, none⟩) cap (xs := []) (fun j hj => by simp at hj) (by simp)
      exact ⟨v', W', r, o, ⟨c.os, c.tape, c.output, c.size, fun k hk => c.block k hk (fun e => by simp [Value.ownBlock] at e)⟩⟩
  · obtain ⟨g, cap, rfl⟩ := own_pos h (by omega)
    obtain ⟨_, _, hrd⟩ := h.rd
    obtain ⟨v', W', r, o, c, _⟩ := appR ty (ownN_nil W W.heap.size) (Nat.le_refl _) (ad := ⟨g, 0, none⟩) cap (xs := A) (fun j hj => by
      rw [Addr.add_mid, Nat.zero_add]
      have := (put1 h hj []).1
      exact this) (by simp; omega)
    exact ⟨v', W', r, by simpa using o, ⟨c.os, c.tape, c.output, c.size, fun k hk => c.block k hk (fun e => by simp [Value.ownBlock] at e)⟩⟩
theorem nxB {A B C : World} (h : Below A.heap.size A B) (k : Below B.heap.size B C) : Below A.heap.size A C := h.trans (k.mono h.size)
set_option maxRecDepth 100000 in
set_option maxHeartbeats 4000000 in
theorem alike_any {n0 m0 : Nat} {w : World} {f r : Nat} {vT vN : Value} {L : Row} (hf : FB n0 w f L) (hr : RO m0 w r vT vN L) (hl : L.length ≤ 100) (hA : AF w) (x : Tx) (hx : x.length ≤ 60) :
    Calls Tryz.prog 20 #[.pointer (some ⟨f, 0, none⟩), .pointer (some ⟨r, 0, none⟩), tx x] w fun e W' => e = .returned (.bool true) ∧ Below w.heap.size w W' := by
  obtain ⟨i0, hi0, hz0, hz1, hz2⟩ := info_parts9 info9N
  have hes := elemSize30
  have HF := hide hf
  have HR := hide hr
  have HA := hide hA
  have hkl := ks_len L
  have hck := fun W (hW : Below w.heap.size w W) => checkB (hf.later hW) (by omega) (hA.later hW)
  have hck2 := fun W (hW : Below w.heap.size w W) => refCheck_any (hr.later hW) (by omega)
  clear hf hr hA
  unfold tx at *
  go_enter Tryz.func20, Tryz.ntmps20
  go_wp2
  refine alike1 _ _ rfl rfl rfl HF.out HR.out (by omega) (fun _ _ _ _ _ h => h) ?_
  intro v22 w1 b1
  simp only [Reg.ov, Act.put, List.setIfInBounds_toArray, List.set_cons_succ, List.set_cons_zero]
  go_wp2_with fail
  refine (hck w1 b1).mono ?_
  rintro e w2 ⟨rfl, b2⟩
  have b2' := nx b1 b2
  go_wp2_with fail
  refine (hck2 w2 b2').mono ?_
  rintro e w3 ⟨rfl, b3⟩
  have b3' := nx b2' b3
  have k0 := (HR.out.later b3').c0
  obtain ⟨v4, w4, hrun4, ho4, b4⟩ := copyN 30 (HR.out.later b3').tags (by omega)
  have H4 := hide hrun4
  have HO4 := hide ho4
  have HB4 := hide b4
  have HB3 := hide b3'
  have hz3 := b3'.size
  have hz4 := b4.size
  clear hck hck2 b1 b2 b2' b3 b3' hrun4 ho4 b4
  generalize (check L).1 = c1 at *
  generalize (check L).2 = c2 at *
  have he1 : (c1 == c1) = true := by simp
  have he2 : ((c2 : Int) == (c2 : Int)) = true := by simp
  have rO : w4.ownsRow w3.heap.size 9 1 v4 (ks L).length ((ks L).map tx) := HO4.out
  unfold tx at *
  go_wp2_with (at_builtin; first | (refine wpList_app_run rfl _ _ 30 30 rfl rfl rfl H4.out ?_) | (refine wpList_append_own_at _ rfl _ _ 30 rfl w3.heap.size 9 i0 (.string ByteArray.empty) 1 16 Tryz.underlying30 hi0 hz0 hz1 hz2 rfl (by decide) _ _ _ rfl (rO.alloc _) ⟨w4.heap.size, 0, none⟩ 1 1 [.string ⟨x.toArray⟩] rfl rfl (one_new _ _ _) (by simp [Value.oneCell']) (by unfold maxLen; omega) (by omega) (by simp; omega) ?_; intro v9 w9 hown9 hgrow9 _ hat9; obtain ⟨g9, cap9, rfl⟩ := ownsRow_succ hown9))
  have fin := own_app HO4.out (by omega) hown9 hgrow9
  have HB9 : Hid (Below w.heap.size w w9) := hide (nx HB3.out (HB4.out.trans fin.2))
  have HRD : Hid (OwnN w9 w3.heap.size (.slice (some ⟨g9, 0, none⟩) ((ks L).length + 1) cap9) (ks L ++ [x])) := hide fin.1
  have hOL : (ks L ++ [x]).length = (ks L).length + 1 := by simp
  have HKX : Hid (∀ t ∈ ks L ++ [x], t.length ≤ 60) := hide (fun t ht => by
    rcases List.mem_append.1 ht with h | h
    · have := HR.out.ksl t h; omega
    · rw [List.mem_singleton.1 h]; exact hx)
  clear fin hown9 hgrow9 hat9 rO H4 HO4 HB4 HB3 k0 he1 he2
  generalize hO : ks L ++ [x] = O at *
  have hnO : O.length = L.length + 1 := by omega
  clear hO
  go_loopw [12] (fun u wr => ∃ i : Nat, u = .int .i64 (i : Int) ∧ i ≤ O.length ∧ Below w9.heap.size w9 wr) (fun u _ => O.length - (intOf u).toNat)
  case atStart => exact ⟨0, rfl, by omega, Below.refl _ _⟩
  case round =>
    obtain ⟨i, rfl, hi, hb⟩ := hrel
    by_cases hlt : i < O.length
    · have hc := cell_later hb (put1 HRD.out hlt []).1
      have htl := HKX.out _ (List.getElem_mem hlt)
      generalize O[i] = t at *
      have hbw := nx HB9.out hb
      have hn1 := fun W (hW : Below w.heap.size w W) => nextFB (HF.out.later hW) t (by omega) (HA.out.later hW)
      have hn2 := fun W (hW : Below w.heap.size w W) => refNext_any (HR.out.later hW) (by omega) t htl
      have hch := fun W (hW : Below w.heap.size w W) => chainB (HF.out.later hW) t (by omega) (HA.out.later hW)
      have hch2 := fun W (hW : Below w.heap.size w W) => refChain_any (HR.out.later hW) (by omega) t htl
      have HC6 : Hid ((chain L t).1.length ≤ 8) := hide (by
        rcases steps_chain L t with ⟨_, h2⟩ | ⟨_, h2, _⟩
        · have := steps_few L t; rw [h2, List.length_map] at this; exact this
        · rw [h2]; simp)
      have HBZ : Hid (Below w9.heap.size w9 wr) := hide hb
      have hlt3 : i < L.length + 1 := by omega
      have hil : (i : Int) < (L.length : Int) + 1 := by omega
      clear hb
      unfold AnsN AnsH at *
      obtain ⟨nx1, hnx1⟩ : ∃ q, q = next L t := ⟨_, rfl⟩
      rw [← hnx1] at hn1 hn2
      obtain ⟨nxt, mr, er⟩ := nx1
      obtain ⟨ch, hch1⟩ : ∃ q, q = chain L t := ⟨_, rfl⟩
      rw [← hch1] at hch hch2 HC6
      obtain ⟨cs, ce⟩ := ch
      simp only at hn1 hn2 hch hch2 HC6
      clear hnx1 hch1
      unfold tx at *
      go_wp2_with fail
      refine (hn1 wr hbw).mono ?_
      rintro e u1 ⟨rfl, b1⟩
      have b1' := nx hbw b1
      have hc1 := cell_later b1 hc
      clear hc hn1
      go_wp2_with fail
      refine (hn2 u1 b1').mono ?_
      rintro e u2 ⟨rfl, b2⟩
      have b2' := nx b1' b2
      have hc2 := cell_later b2 hc1
      clear hn2 hc1
      go_wp2
      refine alike13 _ _ rfl rfl rfl rfl rfl rfl rfl rfl rfl rfl rfl (HF.out.later b2') (HR.out.later b2') (by omega) (HA.out.later b2') (by omega) hc2 htl (fun _ _ _ _ _ h => h) ?_
      intro v1 v2 q3 b3
      have b3' := nx b2' b3
      have hc3 := cell_later b3 hc2
      have hb3w : Below w9.heap.size w9 q3 := (HBZ.out.trans ((nxB b1 (nxB b2 b3)).mono HBZ.out.size))
      clear hc2
      simp only [Reg.ov, Act.put, List.setIfInBounds_toArray, List.set_cons_succ, List.set_cons_zero]
      go_wp2_with fail
      refine (hch q3 b3').mono ?_
      rintro e q4 ⟨⟨cv, rfl, o4⟩, b4⟩
      have b4' := nx b3' b4
      have hc4 := cell_later b4 hc3
      clear hch hc3
      go_wp2_with fail
      refine (hch2 q4 b4').mono ?_
      rintro e q5 ⟨⟨cv2, rfl, o5⟩, b5⟩
      have b5' := nx b4' b5
      have htx := texts_own (o4.later b5) o5 (by have := HC6.out; omega)
      clear hch2 hc4
      go_wp2_with fail
      refine htx.mono ?_
      rintro e q6 ⟨rfl, b6⟩
      have hce : ((ce : Int) == (ce : Int)) = true := by simp
      have HB6 : Hid (Below w9.heap.size w9 q6) := hide (hb3w.trans ((nxB b4 (nxB b5 b6)).mono hb3w.size))
      clear htx o4 o5
      go_wp2
      go_roundw
      case rel => exact ⟨i + 1, by go_num, by omega, HB6.out⟩
      case measure => simp [intOf]; omega
    · have HBW := hide (nx HB9.out hb)
      clear hb
      go_wp2
      go_ret
      exact ⟨rfl, HBW.out⟩
end C
end Go.Proofs.YtbeihgjonhgfmaaGreatDoor
