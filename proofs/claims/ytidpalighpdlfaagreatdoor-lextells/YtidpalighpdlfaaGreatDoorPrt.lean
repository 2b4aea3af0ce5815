/- printed and Print of lex. -/
import Derived.Test.YtidpalighpdlfaaGreatDoorUpp
import Derived.Test.YtidpalighpdlfaaGreatDoorRtok
namespace Go.Proofs.YtidpalighpdlfaaGreatDoor
open Go.RowKit

/-- A sign as it is printed by itself. -/
def prn (t : X.Tk) : List UInt8 := if t.kind = 7 then [10] else (X.one t).getD []
theorem quoteB_len : ∀ (u : List UInt8), (X.quoteB u).length ≤ 2 * u.length
  | [] => by simp [X.quoteB]
  | c :: u => by
    have ih := quoteB_len u
    unfold X.quoteB
    split <;> simp <;> omega
theorem cells_fourN {W : World} {k : Nat} {u v x y : Value} {t : TypeId} (h : W.heap[k]? = some (.cells #[u, v, x, y] t)) : W.cell? ⟨k, 0, none⟩ = some u ∧ W.cell? ⟨k, 2, none⟩ = some x ∧ W.cell? ⟨k, 3, none⟩ = some y := by
  simp [World.cell?, h]
/-- What is asked of a sign that is printed. -/
def okP (t : X.Tk) : Prop := t.text.length ≤ 700 ∧ (t.kind = 4 → 0 ≤ t.r ∧ t.r ≤ 1114111)
set_option maxRecDepth 100000 in
set_option maxHeartbeats 600000 in
theorem printed_any (kind : Nat) (text : List UInt8) (r : Int) (k : Nat) (hk : 1 ≤ kind ∧ kind ≤ 8) (hok : okP ⟨kind, text, r⟩) (w : World) (hd : Deb w) : Calls Tryz.prog 15 #[.agg #[.int .i64 (kind : Int), .int .i64 (k : Int), .string ⟨text.toArray⟩, .int .i32 r]] w fun e w' => e = .returned (.string ⟨(prn ⟨kind, text, r⟩).toArray⟩) ∧ Below w.heap.size w w' := by
  obtain ⟨htl, hr⟩ := hok
  simp only at htl hr
  have hsz : (⟨text.toArray⟩ : ByteArray).size = text.length := by show text.toArray.size = _; simp
  have hr0 := heap_alloc_new w (.cells #[.int .i64 (kind : Int), .int .i64 (k : Int), .string ⟨text.toArray⟩, .int .i32 r] 33)
  have hb0 := al1 w (.cells #[.int .i64 (kind : Int), .int .i64 (k : Int), .string ⟨text.toArray⟩, .int .i32 r] 33)
  by_cases h7 : kind = 7
  · have HP : Hid (prn ⟨kind, text, r⟩ = [10]) := hide (by unfold prn; rw [if_pos h7])
    have e7 : ((kind : Int) == 7) = true := by rw [beq_iff_eq]; omega
    clear h7 hr hd
    go_enter Tryz.func15, Tryz.ntmps15
    go_wp2
    go_ret
    refine ⟨?_, al1 w _⟩
    rw [HP.out]
    rfl
  by_cases h1 : kind = 1
  · have HP : Hid (prn ⟨kind, text, r⟩ = [36] ++ text) := hide (by unfold prn; rw [if_neg h7]; unfold X.one; rw [if_pos h1]; rfl)
    have hc := cat_eq [36] text
    have e7 : ((kind : Int) == 7) = false := by rw [beq_eq_false_iff_ne]; omega
    have e1 : ((kind : Int) == 1) = true := by rw [beq_iff_eq]; omega
    clear h7 h1 hr hd
    go_enter Tryz.func15, Tryz.ntmps15
    go_wp2
    go_ret
    refine ⟨?_, al1 w _⟩
    rw [HP.out]
    rfl
  by_cases h2 : kind = 2
  · have HP : Hid (prn ⟨kind, text, r⟩ = [34] ++ X.quoteB text ++ [34]) := hide (by unfold prn; rw [if_neg h7]; unfold X.one; rw [if_neg h1, if_pos h2]; rfl)
    have hq := quoted_any ⟨text.toArray⟩ (by omega) (w.alloc (.cells #[.int .i64 (kind : Int), .int .i64 (k : Int), .string ⟨text.toArray⟩, .int .i32 r] 33))
    rw [show bts ⟨text.toArray⟩ = text from rfl] at hq
    have hql := quoteB_len text
    have hc1 := cat_eq [34] (X.quoteB text)
    have hc2 := cat_eq ([34] ++ X.quoteB text) [34]
    have e7 : ((kind : Int) == 7) = false := by rw [beq_eq_false_iff_ne]; omega
    have e1 : ((kind : Int) == 1) = false := by rw [beq_eq_false_iff_ne]; omega
    have e2 : ((kind : Int) == 2) = true := by rw [beq_iff_eq]; omega
    clear h7 h1 h2 hr hd
    generalize X.quoteB text = q at *
    go_enter Tryz.func15, Tryz.ntmps15
    go_wp2_with fail
    refine hq.mono ?_
    rintro e w1 ⟨rfl, hb1⟩
    have hbb := nx hb0 hb1
    clear hq
    go_wp2
    go_ret
    refine ⟨?_, hbb⟩
    rw [HP.out]
    rfl
  by_cases h4 : kind = 4
  · obtain ⟨hr1, hr2⟩ := hr h4
    obtain ⟨n, rfl⟩ := Int.eq_ofNat_of_zero_le hr1
    have HP : Hid (prn ⟨kind, text, (n : Int)⟩ = [39, 92, 117, 123] ++ X.hexd n ++ [125]) := hide (by
      unfold prn; rw [if_neg h7]; unfold X.one
      rw [if_neg h1, if_neg h2, if_neg (by simp only; omega), if_pos h4]
      simp only [Option.getD_some]
      unfold X.codeB
      rw [show (max 0 (min (n : Int) 1114111)).toNat = n by omega]
      rfl)
    have hx := hext_any n (by omega) (w.alloc (.cells #[.int .i64 (kind : Int), .int .i64 (k : Int), .string ⟨text.toArray⟩, .int .i32 (n : Int)] 33)) (hd.later hb0)
    have hxl := X.hexd_len 5 n (by omega)
    have hc1 := cat_eq [39, 92, 117, 123] (X.hexd n)
    have hc2 := cat_eq ([39, 92, 117, 123] ++ X.hexd n) [125]
    have e7 : ((kind : Int) == 7) = false := by rw [beq_eq_false_iff_ne]; omega
    have e1 : ((kind : Int) == 1) = false := by rw [beq_eq_false_iff_ne]; omega
    have e2 : ((kind : Int) == 2) = false := by rw [beq_eq_false_iff_ne]; omega
    have e4 : ((kind : Int) == 4) = true := by rw [beq_iff_eq]; omega
    clear h7 h1 h2 h4 hr hd
    generalize X.hexd n = q at *
    go_enter Tryz.func15, Tryz.ntmps15
    go_wp2_with fail
    refine hx.mono ?_
    rintro e w1 ⟨rfl, hb1⟩
    have hbb := nx hb0 hb1
    clear hx
    go_wp2
    go_ret
    refine ⟨?_, hbb⟩
    rw [HP.out]
    rfl
  by_cases h5 : kind = 5
  · have HP : Hid (prn ⟨kind, text, r⟩ = [123] ++ text ++ [125]) := hide (by unfold prn; rw [if_neg h7]; unfold X.one; rw [if_neg h1, if_neg h2, if_neg (by simp only; omega), if_neg h4, if_pos h5]; rfl)
    have hc1 := cat_eq [123] text
    have hc2 := cat_eq ([123] ++ text) [125]
    have e7 : ((kind : Int) == 7) = false := by rw [beq_eq_false_iff_ne]; omega
    have e1 : ((kind : Int) == 1) = false := by rw [beq_eq_false_iff_ne]; omega
    have e2 : ((kind : Int) == 2) = false := by rw [beq_eq_false_iff_ne]; omega
    have e4 : ((kind : Int) == 4) = false := by rw [beq_eq_false_iff_ne]; omega
    have e5 : ((kind : Int) == 5) = true := by rw [beq_iff_eq]; omega
    clear h7 h1 h2 h4 h5 hr hd
    go_enter Tryz.func15, Tryz.ntmps15
    go_wp2
    go_ret
    refine ⟨?_, al1 w _⟩
    rw [HP.out]
    rfl
  · have HP : Hid (prn ⟨kind, text, r⟩ = text) := hide (by unfold prn; rw [if_neg h7]; unfold X.one; rw [if_neg h1, if_neg h2, if_pos (by simp only; omega)]; rfl)
    have e7 : ((kind : Int) == 7) = false := by rw [beq_eq_false_iff_ne]; omega
    have e1 : ((kind : Int) == 1) = false := by rw [beq_eq_false_iff_ne]; omega
    have e2 : ((kind : Int) == 2) = false := by rw [beq_eq_false_iff_ne]; omega
    have e4 : ((kind : Int) == 4) = false := by rw [beq_eq_false_iff_ne]; omega
    have e5 : ((kind : Int) == 5) = false := by rw [beq_eq_false_iff_ne]; omega
    clear h7 h1 h2 h4 h5 hr hd
    go_enter Tryz.func15, Tryz.ntmps15
    go_wp2
    go_ret
    refine ⟨?_, al1 w _⟩
    rw [HP.out]
    rfl
end Go.Proofs.YtidpalighpdlfaaGreatDoor
