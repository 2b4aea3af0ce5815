/- Print of lex. -/
import Derived.Test.YtidpalighpdlfaaGreatDoorPrt
import Derived.Test.YtidpalighpdlfaaGreatDoorRdk
namespace Go.Proofs.YtidpalighpdlfaaGreatDoor
open Go.RowKit

theorem prn_len (t : X.Tk) (h : okP t) : (prn t).length ≤ 1410 := by
  obtain ⟨h1, h2⟩ := h
  unfold prn
  split
  · simp
  · unfold X.one
    have hq := quoteB_len t.text
    repeat' split
    all_goals simp
    all_goals try omega
    rename_i h4
    obtain ⟨h5, h6⟩ := h2 h4
    have := X.hexd_len 5 (max 0 (min t.r 1114111)).toNat (by omega)
    unfold X.codeB
    simp
    omega
/-- Which kinds are printed. -/
def kindB (k : Nat) : Bool := decide (0 < k) && decide (k ≤ 8)
theorem kind_any (k : Nat) (w : World) : Calls Tryz.prog 12 #[.int .i64 (k : Int)] w fun e w' => e = .returned (.bool (kindB k)) ∧ w' = w := by
  by_cases h0 : 0 < k
  · have g1 : decide ((0 : Int) < (k : Int)) = true := decide_eq_true (by omega)
    have g2 : decide ((k : Int) ≤ 8) = kindB k := by
      unfold kindB
      rw [decide_eq_true h0, Bool.true_and]
      exact decide_eq_decide.2 (by omega)
    generalize kindB k = b at *
    go_enter Tryz.func12, Tryz.ntmps12
    go_wp2
    go_ret
    exact ⟨rfl, rfl⟩
  · have g1 : decide ((0 : Int) < (k : Int)) = false := decide_eq_false (by omega)
    have HK : Hid (kindB k = false) := hide (by unfold kindB; rw [decide_eq_false h0]; rfl)
    go_enter Tryz.func12, Tryz.ntmps12
    go_wp2
    go_ret
    exact ⟨by rw [HK.out]; rfl, rfl⟩
theorem Bd.lt {B b : Nat} {l : List UInt8} {w : World} (h : Bd B b l w) : b < w.heap.size := h.elim (fun h => h.lt) (fun h => h.lt)
theorem tailP_skip {b : Bool} {t : X.Tk} {ts : List X.Tk} (h : kindB t.kind = false) : X.tailP b (t :: ts) = X.tailP b ts := by
  have hk : t.kind = 0 ∨ 8 < t.kind := by
    simp only [kindB, Bool.and_eq_false_iff, decide_eq_false_iff_not] at h
    omega
  have ho : X.one t = none := by
    unfold X.one
    rw [if_neg (by omega), if_neg (by omega), if_neg (by omega), if_neg (by omega), if_neg (by omega)]
  conv => lhs; unfold X.tailP
  rw [if_neg (by omega), ho]
theorem tailP_line {b : Bool} {t : X.Tk} {ts : List X.Tk} (h : t.kind = 7) : X.tailP b (t :: ts) = prn t ++ X.tailP false ts := by
  conv => lhs; unfold X.tailP
  unfold prn
  rw [if_pos h, if_pos h]
  rfl
theorem tailP_one {b : Bool} {t : X.Tk} {ts : List X.Tk} (h : kindB t.kind = true) (h7 : t.kind ≠ 7) : X.tailP b (t :: ts) = (if b then 32 :: prn t else prn t) ++ X.tailP true ts := by
  have hk : 1 ≤ t.kind ∧ t.kind ≤ 8 := by
    simp only [kindB, Bool.and_eq_true, decide_eq_true_eq] at h
    omega
  conv => lhs; unfold X.tailP
  unfold prn
  rw [if_neg h7, if_neg h7]
  cases ho : X.one t with
  | none =>
    exfalso
    unfold X.one at ho
    repeat' split at ho
    all_goals first | (cases ho; done) | omega
  | some o => rfl

set_option maxRecDepth 100000 in
set_option maxHeartbeats 800000 in
theorem print_lex (ao : Option Addr) (cap : Nat) (l : List (X.Tk × Nat)) (hl : l.length ≤ 700) (hok : ∀ p ∈ l, okP p.1) (w : World) (hr : RdK w ao l) (hd : Deb w) : Calls Tryz.prog 8 #[.slice ao l.length cap] w fun e w' => e = .returned (.string ⟨(X.tailP false (l.map Prod.fst)).toArray⟩) ∧ Below w.heap.size w w' := by
  have hB0 := al1 w (.cells #[.pointer none, .slice none 0 0] 42)
  have hbd := bd_new w
  have HK := hide hok
  have HR := hide hr
  have HDb := hide hd
  clear hok hr hd
  go_enter Tryz.func8, Tryz.ntmps8
  go_wp2
  go_loopw [4, 9] (fun v u wr => ∃ (i : Nat) (o : List UInt8) (a : Nat) (b : Bool), u = .int .i64 (i : Int) ∧ v = .int .i64 (a : Int) ∧ i ≤ l.length ∧ o.length ≤ i * 1411 ∧ Hid (((a : Int) != 7) = b) ∧ Hid (X.tailP false (l.map Prod.fst) = o ++ X.tailP b ((l.drop i).map Prod.fst)) ∧ Bd w.heap.size w.heap.size o wr ∧ Below w.heap.size w wr) (fun _ u _ => l.length - (intOf u).toNat)
  case atStart => exact ⟨0, [], 7, false, rfl, rfl, Nat.zero_le _, by simp, hide rfl, hide rfl, hbd, hB0⟩
  case round =>
    obtain ⟨i, o, a, b, rfl, rfl, hi, hol, HAB, HO, hB, hb⟩ := hrel
    by_cases hlt : i < l.length
    · obtain ⟨bb, off, rfl, c0, c1, c2, c3⟩ := (HR.out.later hb) i hlt
      have hk1 := HK.out l[i] (List.getElem_mem hlt)
      have hdW := HDb.out.later hb
      have HDb2 := hide HDb.out
      have HD : Hid ((l.drop i).map Prod.fst = l[i].1 :: (l.drop (i + 1)).map Prod.fst) := hide (by rw [List.drop_eq_getElem_cons hlt]; rfl)
      generalize l[i] = q at *
      obtain ⟨⟨kind, text, r⟩, at_⟩ := q
      simp only at c0 c1 c2 c3 hk1 HD
      have hpl := prn_len _ hk1
      have hix := elemSize23
      have hkn := kind_any kind (wr.alloc (.cells #[.int .i64 (kind : Int), .int .i64 (at_ : Int), .string ⟨text.toArray⟩, .int .i32 r] 33))
      have hB1 := hB.later (al1 wr (.cells #[.int .i64 (kind : Int), .int .i64 (at_ : Int), .string ⟨text.toArray⟩, .int .i32 r] 33))
      have hb1 := hb.alloc hb.size (.cells #[.int .i64 (kind : Int), .int .i64 (at_ : Int), .string ⟨text.toArray⟩, .int .i32 r] 33)
      have hd1 := hdW.later (al1 wr (.cells #[.int .i64 (kind : Int), .int .i64 (at_ : Int), .string ⟨text.toArray⟩, .int .i32 r] 33))
      cases hkb : kindB kind with
      | false =>
        rw [hkb] at hkn
        have HO2 : Hid (X.tailP false (l.map Prod.fst) = o ++ X.tailP b ((l.drop (i + 1)).map Prod.fst)) := hide (by
          rw [HO.out, HD.out, tailP_skip hkb])
        clear HO HD HK HR HDb hkb
        go_wp2_with fail
        refine hkn.mono ?_
        rintro e w2 ⟨rfl, rfl⟩
        go_wp2
        go_roundw
        case rel => exact ⟨i + 1, o, a, b, by go_num, rfl, by omega, by omega, HAB, HO2, hB1, hb1⟩
        case measure => simp [intOf]; omega
      | true =>
        rw [hkb] at hkn
        have hk8 : 1 ≤ kind ∧ kind ≤ 8 := by
          simp only [kindB, Bool.and_eq_true, decide_eq_true_eq] at hkb
          omega
        have hpr0 := fun W hd => printed_any kind text r at_ hk8 hk1 W hd
        by_cases h7 : kind = 7
        · have n7 : ((kind : Int) != 7) = false := by rw [h7]; rfl
          have HO2 : Hid (X.tailP false (l.map Prod.fst) = o ++ (prn ⟨kind, text, r⟩ ++ X.tailP false ((l.drop (i + 1)).map Prod.fst))) := hide (by
            rw [HO.out, HD.out, tailP_line h7])
          clear HO HD HK HR HDb hkb h7
          have hx0 := heap_alloc_new wr (.cells #[.int .i64 (kind : Int), .int .i64 (at_ : Int), .string ⟨text.toArray⟩, .int .i32 r] 33)
          obtain ⟨W1, hW1⟩ : ∃ W1, wr.alloc (.cells #[.int .i64 (kind : Int), .int .i64 (at_ : Int), .string ⟨text.toArray⟩, .int .i32 r] 33) = W1 := ⟨_, rfl⟩
          rw [hW1] at hx0 hkn hB1 hb1 hd1
          obtain ⟨x0, x1, x2, x3⟩ := cells_four hx0
          have hpr := hpr0 W1 hd1
          clear hpr0
          cases b with
          | true =>
            have na := HAB.out
            go_wp2_with fail
            refine hkn.mono ?_
            rintro e w2 ⟨rfl, rfl⟩
            go_wp2_with fail
            refine hpr.mono ?_
            rintro e w3 ⟨rfl, hb3⟩
            have hB3 := hB1.later hb3
            have hbb3 := nx hb1 hb3
            have hws := wstr_k w.heap.size w.heap.size o ⟨(prn ⟨kind, text, r⟩).toArray⟩ w3 hB3 (by first | omega | (simp; omega)) (by show (prn ⟨kind, text, r⟩).toArray.size ≤ _; simp; omega) hbb3.size
            rw [show bts ⟨(prn ⟨kind, text, r⟩).toArray⟩ = prn ⟨kind, text, r⟩ from rfl] at hws
            have hx3 := (hb3.block wr.heap.size (Array.getElem?_eq_some_iff.1 hx0).1).trans hx0
            generalize prn ⟨kind, text, r⟩ = pq at *
            go_wp2_with fail
            refine hws.mono ?_
            rintro e w4 ⟨rfl, hB4, hb4, hk4⟩
            have hx4 := hk4 wr.heap.size _ _ _ hx3 (by decide) (by have := hb.size; have := hB.lt; omega)
            obtain ⟨y0, _, _, _⟩ := cells_four hx4
            clear hws hpr hkn
            go_wp2
            go_roundw
            case rel => exact ⟨i + 1, o ++ pq, kind, false, by go_num, rfl, by omega, by simp; omega, hide n7, hide (by rw [HO2.out]; simp), hB4, hbb3.trans hb4⟩
            case measure => simp [intOf]; omega
          | false =>
            have na := HAB.out
            go_wp2_with fail
            refine hkn.mono ?_
            rintro e w2 ⟨rfl, rfl⟩
            go_wp2_with fail
            refine hpr.mono ?_
            rintro e w3 ⟨rfl, hb3⟩
            have hB3 := hB1.later hb3
            have hbb3 := nx hb1 hb3
            have hws := wstr_k w.heap.size w.heap.size o ⟨(prn ⟨kind, text, r⟩).toArray⟩ w3 hB3 (by first | omega | (simp; omega)) (by show (prn ⟨kind, text, r⟩).toArray.size ≤ _; simp; omega) hbb3.size
            rw [show bts ⟨(prn ⟨kind, text, r⟩).toArray⟩ = prn ⟨kind, text, r⟩ from rfl] at hws
            have hx3 := (hb3.block wr.heap.size (Array.getElem?_eq_some_iff.1 hx0).1).trans hx0
            generalize prn ⟨kind, text, r⟩ = pq at *
            go_wp2_with fail
            refine hws.mono ?_
            rintro e w4 ⟨rfl, hB4, hb4, hk4⟩
            have hx4 := hk4 wr.heap.size _ _ _ hx3 (by decide) (by have := hb.size; have := hB.lt; omega)
            obtain ⟨y0, _, _, _⟩ := cells_four hx4
            clear hws hpr hkn
            go_wp2
            go_roundw
            case rel => exact ⟨i + 1, o ++ pq, kind, false, by go_num, rfl, by omega, by simp; omega, hide n7, hide (by rw [HO2.out]; simp), hB4, hbb3.trans hb4⟩
            case measure => simp [intOf]; omega
        · have n7 : ((kind : Int) != 7) = true := by simp; omega
          have HO2 : Hid (X.tailP false (l.map Prod.fst) = o ++ ((if b then 32 :: prn ⟨kind, text, r⟩ else prn ⟨kind, text, r⟩) ++ X.tailP true ((l.drop (i + 1)).map Prod.fst))) := hide (by
            rw [HO.out, HD.out, tailP_one hkb h7])
          clear HO HD HK HR HDb hkb h7
          have hx0 := heap_alloc_new wr (.cells #[.int .i64 (kind : Int), .int .i64 (at_ : Int), .string ⟨text.toArray⟩, .int .i32 r] 33)
          obtain ⟨W1, hW1⟩ : ∃ W1, wr.alloc (.cells #[.int .i64 (kind : Int), .int .i64 (at_ : Int), .string ⟨text.toArray⟩, .int .i32 r] 33) = W1 := ⟨_, rfl⟩
          rw [hW1] at hx0 hkn hB1 hb1 hd1
          obtain ⟨x0, x1, x2, x3⟩ := cells_four hx0
          cases b with
          | true =>
            have na := HAB.out
            rw [if_pos rfl] at HO2
            have hwb := wbyte_k w.heap.size w.heap.size o 32 W1 hB1 (by omega) hb1.size
            rw [show U8 32 = .int .u8 32 from rfl] at hwb
            go_wp2_with fail
            refine hkn.mono ?_
            rintro e w2 ⟨rfl, rfl⟩
            go_wp2_with fail
            refine hwb.mono ?_
            rintro e w5 ⟨rfl, hB5, hb5, hk5⟩
            have hx5 := hk5 wr.heap.size _ _ _ hx0 (by decide) (by have := hb.size; have := hB.lt; omega)
            obtain ⟨z0, z1, z2, z3⟩ := cells_four hx5
            have hbb5 := hb1.trans hb5
            have hpr := hpr0 w5 (HDb2.out.later hbb5)
            clear hpr0 hwb x0 x1 x2 x3
            go_wp2_with fail
            refine hpr.mono ?_
            rintro e w3 ⟨rfl, hb3⟩
            have hB3 := hB5.later hb3
            have hbb3 := nx hbb5 hb3
            have hws := wstr_k w.heap.size w.heap.size (o ++ [32]) ⟨(prn ⟨kind, text, r⟩).toArray⟩ w3 hB3 (by first | omega | (simp; omega)) (by show (prn ⟨kind, text, r⟩).toArray.size ≤ _; simp; omega) hbb3.size
            rw [show bts ⟨(prn ⟨kind, text, r⟩).toArray⟩ = prn ⟨kind, text, r⟩ from rfl] at hws
            have hx3 := (hb3.block wr.heap.size (Array.getElem?_eq_some_iff.1 hx5).1).trans hx5
            generalize prn ⟨kind, text, r⟩ = pq at *
            go_wp2_with fail
            refine hws.mono ?_
            rintro e w4 ⟨rfl, hB4, hb4, hk4⟩
            have hx4 := hk4 wr.heap.size _ _ _ hx3 (by decide) (by have := hb.size; have := hB.lt; omega)
            obtain ⟨y0, _, _, _⟩ := cells_four hx4
            clear hws hpr hkn
            go_wp2
            go_roundw
            case rel => exact ⟨i + 1, (o ++ [32]) ++ pq, kind, true, by go_num, rfl, by omega, by simp; omega, hide n7, hide (by rw [HO2.out]; simp), hB4, hbb3.trans hb4⟩
            case measure => simp [intOf]; omega
          | false =>
            have na := HAB.out
            rw [if_neg (by decide)] at HO2
            have hpr := hpr0 W1 hd1
            clear hpr0
            go_wp2_with fail
            refine hkn.mono ?_
            rintro e w2 ⟨rfl, rfl⟩
            go_wp2_with fail
            refine hpr.mono ?_
            rintro e w3 ⟨rfl, hb3⟩
            have hB3 := hB1.later hb3
            have hbb3 := nx hb1 hb3
            have hws := wstr_k w.heap.size w.heap.size o ⟨(prn ⟨kind, text, r⟩).toArray⟩ w3 hB3 (by first | omega | (simp; omega)) (by show (prn ⟨kind, text, r⟩).toArray.size ≤ _; simp; omega) hbb3.size
            rw [show bts ⟨(prn ⟨kind, text, r⟩).toArray⟩ = prn ⟨kind, text, r⟩ from rfl] at hws
            have hx3 := (hb3.block wr.heap.size (Array.getElem?_eq_some_iff.1 hx0).1).trans hx0
            generalize prn ⟨kind, text, r⟩ = pq at *
            go_wp2_with fail
            refine hws.mono ?_
            rintro e w4 ⟨rfl, hB4, hb4, hk4⟩
            have hx4 := hk4 wr.heap.size _ _ _ hx3 (by decide) (by have := hb.size; have := hB.lt; omega)
            obtain ⟨y0, _, _, _⟩ := cells_four hx4
            clear hws hpr hkn
            go_wp2
            go_roundw
            case rel => exact ⟨i + 1, o ++ pq, kind, true, by go_num, rfl, by omega, by simp; omega, hide n7, hide (by rw [HO2.out]; simp), hB4, hbb3.trans hb4⟩
            case measure => simp [intOf]; omega
    · have HE : Hid (X.tailP false (l.map Prod.fst) = o) := hide (by
        rw [HO.out, List.drop_eq_nil_of_le (by omega)]
        simp [X.tailP])
      clear HO HAB HK HR HDb
      have hst := bstr_any w.heap.size w.heap.size o wr hB hb.size
      go_wp2_with fail
      refine hst.mono ?_
      rintro e w2 ⟨rfl, hb2⟩
      go_wp2
      go_ret
      exact ⟨by rw [HE.out]; rfl, hb.trans hb2⟩
end Go.Proofs.YtidpalighpdlfaaGreatDoor
