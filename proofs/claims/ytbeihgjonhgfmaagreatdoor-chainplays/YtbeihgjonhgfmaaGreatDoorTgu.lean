/- slices.Contains at texts; formed of tag; strings.LastIndexByte. -/
import Derived.Test.YtbeihgjonhgfmaaGreatDoorTgb
import Derived.Test.YtbeihgjonhgfmaaGreatDoorTgs
import Derived.Test.YtbeihgjonhgfmaaGreatDoorReg
namespace Go.Proofs.YtbeihgjonhgfmaaGreatDoor
open Go.RowKit

theorem tl_eq (l m : List UInt8) : ((⟨l.toArray⟩ : ByteArray).toList == (⟨m.toArray⟩ : ByteArray).toList) = (l == m) := by
  rw [ByteArray.toList_eq, ByteArray.toList_eq]
theorem elemSize30 (w : World) : (sizeOf (Tryz.prog.elem 30)).run Tryz.prog w = .ok 1 w := by kernel_rfl
set_option maxRecDepth 100000 in
set_option maxHeartbeats 1000000 in
theorem index_any (w : World) (ao : Option Addr) (cap : Nat) (ss : List (List UInt8)) (x : List UInt8) (hr : RdT w ao ss) (hl : ss.length ≤ 1000) :
    Calls Tryz.prog 51 #[.slice ao ss.length cap, tx x] w fun e w' => (∃ r : Int, e = .returned (.int .i64 r) ∧ decide (0 ≤ r) = ss.contains x) ∧ w' = w := by
  have HR := hide hr
  clear hr
  have hes := elemSize30
  go_enter Tryz.func51, Tryz.ntmps51
  go_wp2
  go_loopw [8] (fun u wr => ∃ n : Nat, u = .int .i64 (n : Int) ∧ n ≤ ss.length ∧ Hid ((ss.take n).contains x = false) ∧ wr = w) (fun u _ => ss.length - (intOf u).toNat)
  case atStart => exact ⟨0, rfl, by omega, hide (by simp), by first | rfl | trivial⟩
  case round =>
    obtain ⟨n, rfl, hn, HA, rfl⟩ := hrel
    by_cases hlt : n < ss.length
    · obtain ⟨b, off, rfl, hb, hc⟩ := HR.out n hlt
      have HT : Hid (ss.take (n + 1) = ss.take n ++ [ss[n]]) := hide (by rw [List.take_succ_eq_append_getElem hlt])
      have HM : Hid (ss[n] ∈ ss) := hide (List.getElem_mem hlt)
      generalize ss[n] = y at *
      by_cases hxy : x = y
      · subst hxy
        have hf : Hid (ss.contains x = true) := hide (by simpa using HM.out)
        have he : (x == x) = true := by simp
        clear HA HT HM
        go_wp2
        go_ret
        exact ⟨⟨_, rfl, by rw [hf.out]; simp⟩, rfl⟩
      · have he : (x == y) = false := by simp [hxy]
        go_wp2
        go_roundw
        case rel => exact ⟨n + 1, by go_num, by omega, hide (by rw [HT.out]; have := HA.out; simp at this ⊢; exact ⟨this, fun h => hxy h⟩), by first | rfl | trivial⟩
        case measure => simp [intOf]; omega
    · have HF : Hid (ss.contains x = false) := hide (by have := HA.out; rwa [List.take_of_length_le (by omega)] at this)
      clear HA
      go_wp2
      go_ret
      exact ⟨⟨_, rfl, by rw [HF.out]; rfl⟩, rfl⟩
theorem contains_any (w : World) (ao : Option Addr) (cap : Nat) (ss : List (List UInt8)) (x : List UInt8) (hr : RdT w ao ss) (hl : ss.length ≤ 1000) :
    Calls Tryz.prog 30 #[.slice ao ss.length cap, tx x] w fun e w' => e = .returned (.bool (ss.contains x)) ∧ w' = w := by
  have h := index_any w ao cap ss x hr hl
  generalize ss.contains x = b at *
  unfold tx at *
  clear hr
  go_enter Tryz.func30, Tryz.ntmps30
  go_wp2_with fail
  refine h.mono ?_
  rintro e w1 ⟨⟨r, rfl, hd⟩, rfl⟩
  have HD := hide hd
  clear hd h
  go_wp2
  go_ret
  exact ⟨by rw [← HD.out]; rfl, rfl⟩
theorem low_ascii {l : List UInt8} (h : l.all G.isA = true) : ∀ c ∈ l.map G.lo, c.toNat < 128 := by
  intro c hc
  obtain ⟨d, hd, rfl⟩ := List.mem_map.1 hc
  have h1 := List.all_eq_true.1 h d hd
  have := G.all_u8 (fun c => !(G.isA c) || decide ((G.lo c).toNat < 128)) (by decide +kernel) d
  simpa [h1] using this
theorem alnum_ascii {l : List UInt8} (h : l.all G.isA = true) : ∀ c ∈ l, c.toNat < 128 := by
  intro d hd
  have h1 := List.all_eq_true.1 h d hd
  have := G.all_u8 (fun c => !(G.isA c) || decide (c.toNat < 128)) (by decide +kernel) d
  simpa [h1] using this
theorem bts_ext (s : ByteArray) (a b : Nat) : bts (s.extract a b) = ((bts s).drop a).take (b - a) := by
  unfold bts
  rw [← Lib.toList_data, Lib.extract_toList]
theorem ext_tx (l : List UInt8) (a b : Nat) : (⟨l.toArray⟩ : ByteArray).extract a b = ⟨((l.drop a).take (b - a)).toArray⟩ := by
  have := bts_ext ⟨l.toArray⟩ a b
  rw [← mk_bts ((⟨l.toArray⟩ : ByteArray).extract a b), this, bts_tx]
theorem add_tx (l m : List UInt8) : (⟨l.toArray⟩ : ByteArray) ++ ⟨m.toArray⟩ = ⟨(l ++ m).toArray⟩ := by
  apply ByteArray.ext
  simp
theorem slT {w : World} {ρ : Operand → Value} {o : Oper} {x z : Operand} {s t : ByteArray} {b : Nat} (hop : o.op = .slice 9 x none (some z) none) (hx : ρ x = .string s) (hz : ρ z = .int .i64 (b : Int)) (hb : b ≤ s.size) (ht : s.extract 0 b = t) : (execOp ρ o).run Tryz.prog w = .ok (.value (.string t)) w := by
  obtain ⟨dst, op, type, pos, after, guard⟩ := o
  simp only at hop
  subst hop
  have h2 : (b : Int) ≤ (s.size : Int) := by omega
  subst ht
  simp [execOp, hx, hz, go_sem, h2]
theorem slF {w : World} {ρ : Operand → Value} {o : Oper} {x y : Operand} {s t : ByteArray} {a : Nat} (hop : o.op = .slice 9 x (some y) none none) (hx : ρ x = .string s) (hy : ρ y = .int .i64 (a : Int)) (hb : a ≤ s.size) (ht : s.extract a s.size = t) : (execOp ρ o).run Tryz.prog w = .ok (.value (.string t)) w := by
  obtain ⟨dst, op, type, pos, after, guard⟩ := o
  simp only at hop
  subst hop
  have h2 : (a : Int) ≤ (s.size : Int) := by omega
  subst ht
  simp [execOp, hx, hy, go_sem, h2]
theorem adS {w : World} {ρ : Operand → Value} {o : Oper} {x y : Operand} {s t u : ByteArray} (hop : o.op = .binOp .add 9 x y 9) (hx : ρ x = .string s) (hy : ρ y = .string t) (hu : s ++ t = u) (hl : u.size ≤ 100000) : (execOp ρ o).run Tryz.prog w = .ok (.value (.string u)) w := by
  obtain ⟨dst, op, type, pos, after, guard⟩ := o
  simp only at hop
  subst hop
  subst hu
  rw [ByteArray.size_append] at hl
  simp [execOp, hx, hy, go_sem]
  omega
set_option maxRecDepth 100000 in
set_option maxHeartbeats 1000000 in
theorem form_any (k : Nat) (hk : k ≤ 4) (l : List UInt8) (ha : l.all G.isA = true) (h2 : 2 ≤ l.length) (h8 : l.length ≤ 8) (w : World) : Calls Tryz.prog 45 #[tx l, .int .i64 (k : Int)] w fun e w' => e = .returned (tx (G.form k l)) ∧ Below w.heap.size w w' := by
  have hlo := lower_any ⟨l.toArray⟩ (by rw [sz_tx]; omega) (alnum_ascii ha) w
  rw [bts_tx] at hlo
  have hlen : (l.map G.lo).length = l.length := by simp
  have HF : Hid (G.form k l = if k = 2 then ((l.map G.lo).take 1).map G.up ++ (l.map G.lo).drop 1 else if k = 3 then (l.map G.lo).map G.up else l.map G.lo) := hide rfl
  have hasc := low_ascii ha
  rw [HF.out]
  clear HF ha
  generalize l.map G.lo = m at *
  have hu1 := fun W => upper_any ⟨(m.take 1).toArray⟩ (by rw [sz_tx, List.length_take]; omega) (fun c hc => hasc c (List.mem_of_mem_take hc)) W
  have hu := fun W => upper_any ⟨m.toArray⟩ (by rw [sz_tx]; omega) hasc W
  rw [bts_tx] at hu1 hu
  have hsz := sz_tx m
  have e1 : (⟨m.toArray⟩ : ByteArray).extract 0 1 = ⟨(m.take 1).toArray⟩ := by rw [ext_tx]; simp
  have e2 : (⟨m.toArray⟩ : ByteArray).extract 1 m.length = ⟨(m.drop 1).toArray⟩ := by rw [ext_tx, List.take_of_length_le (by rw [List.length_drop]; omega)]
  unfold tx
  by_cases k2 : k = 2
  · subst k2
    have e3 := add_tx ((m.take 1).map G.up) (m.drop 1)
    rw [if_pos rfl]
    have so : ((m.take 1).map G.up ++ m.drop 1).length ≤ 8 := by simp; omega
    have so1 : ((m.take 1).map G.up).length ≤ 8 := by simp; omega
    have so2 : (m.drop 1).length ≤ 8 := by simp; omega
    have st := sz_tx ((m.take 1).map G.up ++ m.drop 1)
    have st1 := sz_tx ((m.take 1).map G.up)
    have st2 := sz_tx (m.drop 1)
    generalize (m.take 1).map G.up ++ m.drop 1 = o at *
    generalize (m.take 1).map G.up = o1 at *
    clear hu
    have z1 : 2 ≤ m.length := by omega
    clear hlen h2 h8 hasc
    go_enter Tryz.func45, Tryz.ntmps45
    go_wp2_with fail
    refine hlo.mono ?_
    rintro e w1 ⟨rfl, hb1⟩
    go_wp2
    refine Reg.start (B := w1.drew.heap.size) (by kernel_rfl) ?_
    obtain ⟨wa, hwa⟩ : ∃ wa, wa = w1.drew := ⟨_, rfl⟩
    rw [← hwa]
    have hba : Below w.heap.size w wa := by rw [hwa]; exact hb1.drew
    clear hwa hb1
    refine Reg.take (fun _ _ _ _ _ h => h) 0 _ 11 (.string ⟨m.toArray⟩) rfl (by kernel_rfl) (by kernel_rfl) (by kernel_rfl) rfl (by kernel_rfl) (by kernel_rfl) (fun _ _ => by kernel_rfl) ?_
    refine Reg.take (fun _ _ _ _ _ h => h) 1 _ 12 (.string ⟨(m.take 1).toArray⟩) rfl (by kernel_rfl) (by kernel_rfl) (by kernel_rfl) rfl (by kernel_rfl) (by kernel_rfl) (fun _ _ => slT (b := 1) rfl (by kernel_rfl) (by kernel_rfl) (by rw [hsz]; omega) e1) ?_
    refine Reg.take (fun _ _ _ _ _ h => h) 3 _ 14 (.string ⟨m.toArray⟩) rfl (by kernel_rfl) (by kernel_rfl) (by kernel_rfl) rfl (by kernel_rfl) (by kernel_rfl) (fun _ _ => by kernel_rfl) ?_
    refine Reg.take (fun _ _ _ _ _ h => h) 4 _ 15 (.string ⟨(m.drop 1).toArray⟩) rfl (by kernel_rfl) (by kernel_rfl) (by kernel_rfl) rfl (by kernel_rfl) (by kernel_rfl) (fun _ _ => slF (a := 1) rfl (by kernel_rfl) (by kernel_rfl) (by rw [hsz]; omega) (by rw [hsz]; exact e2)) ?_
    refine Reg.call 2 _ 13 67 _ _ #[.string ⟨(m.take 1).toArray⟩] rfl (by kernel_rfl) rfl (by kernel_rfl) (by kernel_rfl) rfl (by kernel_rfl) (by kernel_rfl) (hu1 wa) ?_
    rintro e w2 ⟨rfl, hb2⟩
    have hbb := nx hba hb2
    refine ⟨_, w2.heap.size, rfl, hb2.size, hb2, ?_⟩
    refine Reg.take (fun _ _ _ _ _ h => h) 5 _ 16 (.string ⟨o.toArray⟩) rfl (by kernel_rfl) (by kernel_rfl) (by kernel_rfl) rfl (by kernel_rfl) (by kernel_rfl) (fun _ _ => adS (s := ⟨o1.toArray⟩) (t := ⟨(m.drop 1).toArray⟩) rfl (by kernel_rfl) (by kernel_rfl) e3 (by rw [st]; omega)) ?_
    refine Reg.take (fun _ _ _ _ _ h => h) 6 _ 4 (.string ⟨o.toArray⟩) rfl (by kernel_rfl) (by kernel_rfl) (by kernel_rfl) rfl (by kernel_rfl) (by kernel_rfl) (fun _ _ => by kernel_rfl) ?_
    refine Reg.done (by kernel_rfl) ?_
    simp only [Reg.ov, Act.put, List.setIfInBounds_toArray, List.set_cons_succ, List.set_cons_zero]
    go_wp2
    go_ret
    exact ⟨rfl, hbb⟩
  · rw [if_neg k2]
    have g2 : ((k : Int) == 2) = false := by simp; omega
    by_cases k3 : k = 3
    · subst k3
      rw [if_pos rfl]
      clear hu1 e1 e2
      generalize m.map G.up = o at *
      go_enter Tryz.func45, Tryz.ntmps45
      go_wp2_with fail
      refine hlo.mono ?_
      rintro e w1 ⟨rfl, hb1⟩
      go_wp2_with fail
      refine (hu w1).mono ?_
      rintro e w2 ⟨rfl, hb2⟩
      go_wp2
      go_ret
      exact ⟨rfl, nx hb1 hb2⟩
    · rw [if_neg k3]
      have g3 : ((k : Int) == 3) = false := by simp; omega
      clear hu hu1 e1 e2
      go_enter Tryz.func45, Tryz.ntmps45
      go_wp2_with fail
      refine hlo.mono ?_
      rintro e w1 ⟨rfl, hb1⟩
      go_wp2
      go_ret
      exact ⟨rfl, hb1⟩
end Go.Proofs.YtbeihgjonhgfmaaGreatDoor
