/- strings.EqualFold of whatever bytes and root. -/
import Derived.ScopeJumps
import Derived.Test.YtbeihgjonhgfmaaGreatDoorTgx
namespace Go.Proofs.YtbeihgjonhgfmaaGreatDoor
open Go.RowKit

abbrev rootS : ByteArray := ⟨#[114, 111, 111, 116]⟩
/-- What is asked of the library's table: the other case of each of root's letters. -/
def AF (w : World) : Prop := w.cell? ⟨0, 114, none⟩ = some (.int .u16 82) ∧ w.cell? ⟨0, 82, none⟩ = some (.int .u16 114) ∧ w.cell? ⟨0, 111, none⟩ = some (.int .u16 79) ∧ w.cell? ⟨0, 79, none⟩ = some (.int .u16 111) ∧ w.cell? ⟨0, 116, none⟩ = some (.int .u16 84) ∧ w.cell? ⟨0, 84, none⟩ = some (.int .u16 116)
theorem AF.later {w w' : World} (h : AF w) (hb : Below w.heap.size w w') : AF w' := ⟨cell_later hb h.1, cell_later hb h.2.1, cell_later hb h.2.2.1, cell_later hb h.2.2.2.1, cell_later hb h.2.2.2.2.1, cell_later hb h.2.2.2.2.2⟩
theorem AF.look {w : World} (h : AF w) {d : Nat} (hd : d = 114 ∨ d = 111 ∨ d = 116) : w.cell? ⟨0, d, none⟩ = some (.int .u16 ((d - 32 : Nat) : Int)) ∧ w.cell? ⟨0, d - 32, none⟩ = some (.int .u16 (d : Int)) := by
  rcases hd with rfl | rfl | rfl
  · exact ⟨h.1, h.2.1⟩
  · exact ⟨h.2.2.1, h.2.2.2.1⟩
  · exact ⟨h.2.2.2.2.1, h.2.2.2.2.2⟩
set_option maxHeartbeats 1000000 in
theorem sfold_any (r q : Nat) (hr : r < 128) (hq : q < 128) (w : World) (hc : w.cell? ⟨0, r, none⟩ = some (.int .u16 (q : Int))) : Calls Tryz.prog 59 #[.int .i32 (r : Int)] w fun e w' => e = .returned (.int .i32 (q : Int)) ∧ w' = w := by
  have g0 : decide ((r : Int) < 0) = false := decide_eq_false (by omega)
  have g1 : decide ((1114111 : Int) < (r : Int)) = false := decide_eq_false (by omega)
  have g2 : decide ((r : Int) < 128) = true := decide_eq_true (by omega)
  go_enter Tryz.func59, Tryz.ntmps59
  go_wp2
  go_ret
  exact ⟨rfl, rfl⟩
theorem isE (t : ByteArray) (h : 0 < t.size) : t.toList.isEmpty = false := by
  rw [Lib.toList_data]
  cases hh : t.data.toList with
  | nil => have := Lib.size_eq t; rw [hh, List.length_nil] at this; omega
  | cons _ _ => rfl
set_option maxHeartbeats 1000000 in
theorem drune_any (t : ByteArray) (d : UInt8) (hd : d.toNat < 128) (h0 : 0 < t.size) (ht : ∀ h, t[0]'h = d) (w : World) : Calls Tryz.prog 58 #[.string t] w fun e w' => e = .returned (.tuple #[.int .i32 (d.toNat : Int), .int .i64 1]) ∧ w' = w := by
  have he := isE t h0
  have g1 : decide ((d.toNat : Int) < 128) = true := decide_eq_true (by omega)
  go_enter Tryz.func58, Tryz.ntmps58
  go_wp2
  go_ret2
  exact ⟨rfl, rfl⟩
/-- The frame at the jump. -/
def Jmp (s : ByteArray) (w : World) (a : Act) (w' : World) : Prop := w' = w ∧ ∃ i : Nat, (∃ h : i < (bts s).length, i < 4 ∧ 128 ≤ (bts s)[i].toNat) ∧ ∃ u4 u6 u7 u8 u14 u15 u16 u17 u18 u19 u20 u21 u22 u23 u24 u25 u26 u27 u28 u29 u30 u31 u32 u33 u34 u35 u36 u37 u38 u39 u40 u41 u42 u43 u44 u45 u46 u47 u48 u49 u50 u51 u52 u53 u54 : Value, a = { tmps := #[.string s, .string rootS, undef, undef, u4, .int .i64 (i : Int), u6, u7, u8, undef, undef, undef, undef, undef, u14, u15, u16, u17, u18, u19, u20, u21, u22, u23, u24, u25, u26, u27, u28, u29, u30, u31, u32, u33, u34, u35, u36, u37, u38, u39, u40, u41, u42, u43, u44, u45, u46, u47, u48, u49, u50, u51, u52, u53, u54, undef, undef, undef, undef, undef, undef, undef, undef, undef, undef, undef, undef, undef, undef, undef, undef, undef, undef, undef, undef, undef, undef, undef, undef, undef, undef, undef, undef, undef, undef, undef, undef, undef, undef, undef, undef, undef, undef, undef, undef, undef, undef, undef, undef, undef, undef, undef, undef, undef, undef, undef, undef, undef, undef, undef, undef, undef, undef, undef, undef, undef, undef, undef, undef, undef, undef, undef, undef], defers := [] }
theorem jump_ret (l : Nat) (J : Act → World → Prop) (Q : Exit → Act → World → Prop) (a : Act) (w : World) : Exit.jump l J Q .ret a w = Q .ret a w := rfl
theorem jump_goto (l : Nat) (J : Act → World → Prop) (Q : Exit → Act → World → Prop) (a : Act) (w : World) : Exit.jump l J Q (.goto l) a w = (l = l ∧ J a w) := rfl
theorem inBlock_goto (n l : Nat) (Q : Exit → Act → World → Prop) (a : Act) (w : World) : Exit.inBlock n Q (.goto l) a w = Q (.goto l) a w := rfl
theorem then_goto (K : Act → World → Prop) (l : Nat) (Q : Exit → Act → World → Prop) (a : Act) (w : World) : Exit.then K Q (.goto l) a w = Q (.goto l) a w := rfl
theorem rootS_at {i : Nat} (hi : i < 4) : ∃ d : UInt8, (∀ h, rootS[i]'h = d) ∧ G.rootB[i]? = some d ∧ (d.toNat = 114 ∨ d.toNat = 111 ∨ d.toNat = 116) := by
  match i, hi with
  | 0, _ => exact ⟨114, fun _ => rfl, rfl, .inl rfl⟩
  | 1, _ => exact ⟨111, fun _ => rfl, rfl, .inr (.inl rfl)⟩
  | 2, _ => exact ⟨111, fun _ => rfl, rfl, .inr (.inl rfl)⟩
  | 3, _ => exact ⟨116, fun _ => rfl, rfl, .inr (.inr rfl)⟩
theorem or_hi (c : UInt8) {d : UInt8} (hd : d.toNat = 114 ∨ d.toNat = 111 ∨ d.toNat = 116) : decide ((128 : Int) ≤ bits BinOp.or IntKind.u8 (c.toNat : Int) (d.toNat : Int)) = decide (128 ≤ c.toNat) := by
  rcases hd with h | h | h <;> rw [h]
  · have := G.all_u8 (fun c => decide ((128 : Int) ≤ bits BinOp.or IntKind.u8 (c.toNat : Int) ((114 : Nat) : Int)) == decide (128 ≤ c.toNat)) (by decide +kernel) c
    simpa using this
  · have := G.all_u8 (fun c => decide ((128 : Int) ≤ bits BinOp.or IntKind.u8 (c.toNat : Int) ((111 : Nat) : Int)) == decide (128 ≤ c.toNat)) (by decide +kernel) c
    simpa using this
  · have := G.all_u8 (fun c => decide ((128 : Int) ≤ bits BinOp.or IntKind.u8 (c.toNat : Int) ((116 : Nat) : Int)) == decide (128 ≤ c.toNat)) (by decide +kernel) c
    simpa using this
theorem lo_root (c : UInt8) {d : UInt8} (hd : d.toNat = 114 ∨ d.toNat = 111 ∨ d.toNat = 116) : G.lo c = d ↔ (c = d ∨ c.toNat + 32 = d.toNat) := by
  have k : ∀ d : UInt8, (List.range 256).all (fun n => decide (G.lo n.toUInt8 = d ↔ (n.toUInt8 = d ∨ n.toUInt8.toNat + 32 = d.toNat))) = true → (G.lo c = d ↔ (c = d ∨ c.toNat + 32 = d.toNat)) := fun d h => by
    have := G.all_u8 (fun c => decide (G.lo c = d ↔ (c = d ∨ c.toNat + 32 = d.toNat))) h c
    exact of_decide_eq_true this
  rcases hd with h | h | h
  · obtain rfl : d = 114 := UInt8.toNat_inj.1 h
    exact k 114 (by decide +kernel)
  · obtain rfl : d = 111 := UInt8.toNat_inj.1 h
    exact k 111 (by decide +kernel)
  · obtain rfl : d = 116 := UInt8.toNat_inj.1 h
    exact k 116 (by decide +kernel)
theorem high_ne (s : ByteArray) (i : Nat) (h : i < (bts s).length) (h1 : 128 ≤ (bts s)[i].toNat) : decide ((bts s).map G.lo = G.rootB) = false := by
  refine decide_eq_false fun e => ?_
  have hm : G.lo (bts s)[i] ∈ G.rootB := by rw [← e]; exact List.mem_map_of_mem (List.getElem_mem h)
  have hlo : G.lo (bts s)[i] = (bts s)[i] := by
    unfold G.lo G.isUp
    rw [decide_eq_false (show ¬ (bts s)[i].toNat ≤ 90 by omega), Bool.and_false]
    rfl
  rw [hlo] at hm
  revert hm h1
  generalize (bts s)[i] = c
  intro h1 hm
  simp [G.rootB] at hm
  rcases hm with rfl | rfl | rfl <;> revert h1 <;> decide
set_option maxRecDepth 100000 in
set_option maxHeartbeats 4000000 in
theorem efold_any (s : ByteArray) (hs : s.size ≤ 100000) (w : World) (hA : AF w) : Calls Tryz.prog 42 #[.string s, .string rootS] w fun e w' => e = .returned (.bool (decide ((bts s).map G.lo = G.rootB))) ∧ Below w.heap.size w w' := by
  have HA := hide hA
  clear hA
  go_enter Tryz.func42, Tryz.ntmps42
  go_wp2
  refine wp_scope_jumps 0 (Jmp s w) (fun _ _ => 0) rfl ?_ ?_
  · go_wp2
    obtain ⟨n, hn, n1, n2, n3⟩ : ∃ n : Nat, min (s.size : Int) 4 = (n : Int) ∧ n ≤ 4 ∧ n ≤ s.size ∧ (n = 4 ∨ n = s.size) := ⟨min s.size 4, by omega, by omega, by omega, by omega⟩
    rw [hn]
    clear hn
    go_loopw [5] (fun u wr => ∃ i : Nat, u = .int .i64 (i : Int) ∧ i ≤ n ∧ Hid (((bts s).map G.lo).take i = G.rootB.take i) ∧ wr = w) (fun u _ => 4 - (intOf u).toNat)
    case atStart => exact ⟨0, rfl, by omega, hide rfl, rfl⟩
    case round =>
      obtain ⟨i, rfl, h1, HE, rfl⟩ := hrel
      by_cases hlt : i < n
      · have hl : i < (bts s).length := Nat.lt_of_lt_of_le hlt n2
        have hx := fun j hj h => idx_at (s := s) hl j hj h
        obtain ⟨d, hrx, hrb, hd⟩ := rootS_at (show i < 4 by omega)
        have HRB := hide hrb
        have HD := hide hd
        have HJ : Hid (128 ≤ (bts s)[i].toNat → ∃ h : i < (bts s).length, i < 4 ∧ 128 ≤ (bts s)[i].toNat) := hide (fun h => ⟨hl, by omega, h⟩)
        have HG : Hid ((bts s)[i]? = some (bts s)[i]) := hide (List.getElem?_eq_getElem hl)
        have HL : Hid (G.lo (bts s)[i] = d → ((bts s).map G.lo).take (i + 1) = G.rootB.take (i + 1)) := hide (fun h => by
          rw [List.take_add_one, List.take_add_one, HE.out, hrb, List.getElem?_map, List.getElem?_eq_getElem hl, Option.map_some, h])
        have HL2 : Hid (G.lo (bts s)[i] ≠ d → decide ((bts s).map G.lo = G.rootB) = false) := hide (fun h => decide_eq_false (fun e => h (by
          have := congrArg (fun l => l[i]?) e
          simp only [List.getElem?_map, List.getElem?_eq_getElem hl, Option.map_some, hrb] at this
          exact Option.some.inj this)))
        generalize (bts s)[i] = c at *
        have hx2 : ∀ h, s[i]'h = c := fun h => hx (i : Int) rfl h
        clear hx hd hrb
        have hor := or_hi c HD.out
        by_cases hc : 128 ≤ c.toNat
        · rw [decide_eq_true hc] at hor
          have HJ2 := hide (HJ.out hc)
          clear HL HL2 HG HE HRB HD
          go_wp2
          go_step3
          simp (config := { zetaDelta := true }) only [inBlock_goto, then_goto, jump_goto]
          exact ⟨trivial, rfl, i, HJ2.out, _, _, _, _, _, _, _, _, _, _, _, _, _, _, _, _, _, _, _, _, _, _, _, _, _, _, _, _, _, _, _, _, _, _, _, _, _, _, _, _, _, _, _, _, _, rfl⟩
        · rw [decide_eq_false hc] at hor
          have hlo := hide (lo_root c HD.out)
          have hdn := d.toNat_lt
          have d97 : 97 ≤ d.toNat := by rcases HD.out with h | h | h <;> omega
          have d122 : d.toNat ≤ 122 := by rcases HD.out with h | h | h <;> omega
          clear HJ HG HRB HD hc
          by_cases hcd : c = d
          · have HL3 := hide (HL.out (hlo.out.2 (.inl hcd)))
            subst hcd
            clear hlo HL HL2 HE
            go_wp2
            go_roundw
            case rel => exact ⟨i + 1, by go_num, by omega, HL3, by first | rfl | trivial⟩
            case measure => simp [intOf]; omega
          · have e1 : ((d.toNat : Int) == (c.toNat : Int)) = false := by rw [u8_eq]; exact decide_eq_false (fun e => hcd e.symm)
            by_cases hcu : c.toNat + 32 = d.toNat
            · have HL3 := hide (HL.out (hlo.out.2 (.inr hcu)))
              have e2 : decide ((d.toNat : Int) < (c.toNat : Int)) = false := decide_eq_false (by omega)
              have e3 : decide ((65 : Int) ≤ (c.toNat : Int)) = true := decide_eq_true (by omega)
              have e4 : decide ((c.toNat : Int) ≤ 90) = true := decide_eq_true (by omega)
              have k1 : (c.toNat : Int) + 97 = ((c.toNat + 97 : Nat) : Int) := by omega
              obtain ⟨q, hq⟩ : ∃ q : Nat, q = c.toNat + 97 := ⟨_, rfl⟩
              have k2 : (c.toNat : Int) + 97 = (q : Int) := by omega
              have k3 : (q : Int) - 65 = (d.toNat : Int) := by omega
              have q2 : q ≤ 187 := by omega
              clear hlo HL HL2 HE k1 hq hcu hcd
              go_wp2
              go_roundw
              case rel => exact ⟨i + 1, by go_num, by omega, HL3, by first | rfl | trivial⟩
              case measure => simp [intOf]; omega
            · have HF := hide (HL2.out (fun e => (hlo.out.1 e).elim hcd hcu))
              clear hlo HL HL2 HE
              by_cases hgt : d.toNat < c.toNat
              · have e2 : decide ((d.toNat : Int) < (c.toNat : Int)) = true := decide_eq_true (by omega)
                have e3 : decide ((65 : Int) ≤ (d.toNat : Int)) = true := decide_eq_true (by omega)
                have e4 : decide ((d.toNat : Int) ≤ 90) = false := decide_eq_false (by omega)
                clear hcd hcu
                go_wp2
                simp (config := { zetaDelta := true }) only [jump_ret]
                go_ret
                exact ⟨by rw [HF.out]; rfl, Below.refl _ _⟩
              · have e2 : decide ((d.toNat : Int) < (c.toNat : Int)) = false := decide_eq_false (by omega)
                by_cases h65 : 65 ≤ c.toNat
                · have e3 : decide ((65 : Int) ≤ (c.toNat : Int)) = true := decide_eq_true (by omega)
                  by_cases h90 : c.toNat ≤ 90
                  · have e4 : decide ((c.toNat : Int) ≤ 90) = true := decide_eq_true (by omega)
                    obtain ⟨q, hq⟩ : ∃ q : Nat, q = c.toNat + 97 := ⟨_, rfl⟩
                    obtain ⟨q3, hq3⟩ : ∃ q : Nat, q = c.toNat + 32 := ⟨_, rfl⟩
                    have k2 : (c.toNat : Int) + 97 = (q : Int) := by omega
                    have k3 : (q : Int) - 65 = (q3 : Int) := by omega
                    have q2 : q ≤ 187 := by omega
                    have q4 : q3 ≤ 122 := by omega
                    have e5 : ((d.toNat : Int) == (q3 : Int)) = false := by simp; omega
                    clear hcd hcu hq hq3
                    go_wp2
                    simp (config := { zetaDelta := true }) only [jump_ret]
                    go_ret
                    exact ⟨by rw [HF.out]; rfl, Below.refl _ _⟩
                  · have e4 : decide ((c.toNat : Int) ≤ 90) = false := decide_eq_false (by omega)
                    clear hcd hcu
                    go_wp2
                    simp (config := { zetaDelta := true }) only [jump_ret]
                    go_ret
                    exact ⟨by rw [HF.out]; rfl, Below.refl _ _⟩
                · have e3 : decide ((65 : Int) ≤ (c.toNat : Int)) = false := decide_eq_false (by omega)
                  clear hcd hcu
                  go_wp2
                  simp (config := { zetaDelta := true }) only [jump_ret]
                  go_ret
                  exact ⟨by rw [HF.out]; rfl, Below.refl _ _⟩
      · obtain rfl : i = n := by omega
        by_cases h4 : s.size = 4
        · have HF : Hid (decide ((bts s).map G.lo = G.rootB) = true) := hide (decide_eq_true (by
            have := HE.out
            rw [List.take_of_length_le (by rw [List.length_map, bts_len]; omega), List.take_of_length_le (by show 4 ≤ i; omega)] at this
            exact this))
          have e6 : ((s.size : Int) == 4) = true := by simp; omega
          clear HE h4
          go_wp2
          simp (config := { zetaDelta := true }) only [jump_ret]
          go_ret
          exact ⟨by rw [HF.out]; rfl, Below.refl _ _⟩
        · have HF : Hid (decide ((bts s).map G.lo = G.rootB) = false) := hide (decide_eq_false (fun e => h4 (by
            have := congrArg List.length e
            rw [List.length_map, bts_len] at this
            exact this)))
          have e6 : ((s.size : Int) == 4) = false := by simp; omega
          clear HE h4
          go_wp2
          simp (config := { zetaDelta := true }) only [jump_ret]
          go_ret
          exact ⟨by rw [HF.out]; rfl, Below.refl _ _⟩
  · rintro a w' ⟨rfl, i, ⟨h1, h2, h3⟩, u4, u6, u7, u8, u14, u15, u16, u17, u18, u19, u20, u21, u22, u23, u24, u25, u26, u27, u28, u29, u30, u31, u32, u33, u34, u35, u36, u37, u38, u39, u40, u41, u42, u43, u44, u45, u46, u47, u48, u49, u50, u51, u52, u53, u54, rfl⟩
    have HF := hide (high_ne s i h1 h3)
    have hi : i < s.size := h1
    have hgz : (s.extract i s.size).size = s.size - i := by rw [ByteArray.size_extract]; omega
    have hb0 : (bts (s.extract i s.size))[0]? = some (bts s)[i] := by
      rw [bts_ext, List.getElem?_take, if_pos (by omega), List.getElem?_drop, Nat.add_zero, List.getElem?_eq_getElem h1]
      rfl
    obtain ⟨hl0, hl1⟩ := List.getElem?_eq_some_iff.1 hb0
    obtain ⟨r, n, e1, e2, e3, e4, e5, e6, _⟩ := dec_high (s.extract i s.size) 0 hl0 (by rw [hl1]; exact h3)
    obtain ⟨d, hrx, _, hd⟩ := rootS_at h2
    have htz : (rootS.extract i 4).size = 4 - i := by rw [ByteArray.size_extract]; show min 4 4 - i = _; omega
    have ht0 : ∀ h, (rootS.extract i 4)[0]'h = d := fun h => by
      rw [ByteArray.getElem_extract]
      simp only [Nat.add_zero]
      exact hrx _
    obtain ⟨hf1, hf2⟩ := AF.look (HA.out.later (al1 w' (.stringIter (s.extract i s.size) (0 + n)))) (d := d.toNat) hd
    have d97 : 97 ≤ d.toNat := by rcases hd with h | h | h <;> omega
    have d122 : d.toNat ≤ 122 := by rcases hd with h | h | h <;> omega
    have hdr := drune_any (rootS.extract i 4) d (by omega) (by omega) ht0 (w'.iter (s.extract i s.size) (0 + n))
    have hs1 := sfold_any d.toNat (d.toNat - 32) (by omega) (by omega) (w'.iter (s.extract i s.size) (0 + n)) hf1
    have hs2 := sfold_any (d.toNat - 32) d.toNat (by omega) (by omega) (w'.iter (s.extract i s.size) (0 + n)) hf2
    have hb2 : Below w'.heap.size w' (w'.iter (s.extract i s.size) (0 + n)) := al1 _ _
    have hnx := fun ty => run_next_any (P := Tryz.prog) w' (s.extract i s.size) 0 ty (by omega)
    rw [e1] at hnx
    simp only at hnx
    obtain ⟨d3, hd3⟩ : ∃ d3 : Nat, d3 = d.toNat - 32 := ⟨_, rfl⟩
    rw [← hd3] at hs1 hs2
    obtain ⟨m, hm⟩ : ∃ m : Nat, m = 4 - i := ⟨_, rfl⟩
    rw [← hm] at htz
    have m1 : 1 ≤ m := by omega
    have q1 : d3 + 32 = d.toNat := by omega
    have htz1 := hide htz
    obtain ⟨tt, htt⟩ : ∃ tt, rootS.extract i 4 = tt := ⟨_, rfl⟩
    rw [htt] at htz hdr
    obtain ⟨ss, hss⟩ : ∃ ss, s.extract i s.size = ss := ⟨_, rfl⟩
    rw [hss] at hnx hdr hs1 hs2 hb2
    obtain ⟨W1, hW1⟩ : ∃ W1, w'.iter ss (0 + n) = W1 := ⟨_, rfl⟩
    rw [hW1] at hnx hdr hs1 hs2 hb2
    have f1 : ((d.toNat : Int) == (r : Int)) = false := by simp; omega
    have f2 : ((d3 : Int) == (d.toNat : Int)) = false := by simp; omega
    have f3 : ((d.toNat : Int) == (d.toNat : Int)) = true := by simp
    have f4 : ((m : Int) == 0) = false := by simp; omega
    have dlt : d.toNat < r := by omega
    have d3lt : d3 < r := by omega
    have d3d : d3 < d.toNat := by omega
    clear htz1 hW1 e1 e4 e5 e6 hd3 hm hl0 hl1 hb0 hgz ht0 hrx hf1 hf2 h3 q1 hd HA
    go_wp2
    go_loopw [1] (fun v wr => v = .string tt ∧ wr = w'.iter ss 0) (fun _ _ => 0)
    case atStart => exact ⟨rfl, rfl⟩
    case round =>
      obtain ⟨rfl, rfl⟩ := hrel
      go_wp2_with fail
      refine hdr.mono ?_
      rintro e w2 ⟨rfl, rfl⟩
      go_wp2_with fail
      refine hs1.mono ?_
      rintro e w3 ⟨rfl, rfl⟩
      go_wp2
      go_loopw [13] (fun v wr => (v = .int .i32 (d3 : Int) ∨ v = .int .i32 (d.toNat : Int)) ∧ wr = w3) (fun v _ => d.toNat - (intOf v).toNat)
      case atStart => exact ⟨.inl rfl, by first | rfl | trivial⟩
      case round =>
        obtain ⟨rfl | rfl, rfl⟩ := hrel
        · go_wp2_with fail
          refine hs2.mono ?_
          rintro e w4 ⟨rfl, rfl⟩
          go_wp2
          go_roundw
          case rel => exact ⟨.inr rfl, by first | rfl | trivial⟩
          case measure => simp [intOf]; omega
        · go_wp2
          simp (config := { zetaDelta := true }) only [jump_ret]
          go_ret
          exact ⟨by rw [HF.out]; rfl, hb2⟩
end Go.Proofs.YtbeihgjonhgfmaaGreatDoor
