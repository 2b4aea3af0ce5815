/- charText, writeSet of regex. -/
import Derived.Test.YteaaijhppmkfeaaGreatDoorRJK
import Derived.Test.YteaaijhppmkfeaaGreatDoorRRep
namespace Go.Proofs.YteaaijhppmkfeaaGreatDoor
open Go.RowKit
open E (T)
namespace E
def chr (r : Int) : List UInt8 := X.tailP false [⟨4, [], r⟩]
def rangesT : Bool → Rs → List UInt8
 | _, [] => []
 | b, r :: rs => (if b = true then [32] else []) ++ (chr r.1 ++ ((if r.1 = r.2 then [] else 45 :: chr r.2) ++ rangesT true rs))
def setT (s : Rs) : List UInt8 := 91 :: (rangesT false s ++ [93])
theorem chr_eq (r : Int) : chr r = X.codeB (max 0 (min r 1114111)).toNat := by
 unfold chr
 rw [X.tailP]
 simp [X.one, X.tailP]
theorem chr_len {r : Int} (h0 : 0 ≤ r) (h1 : r ≤ 1114111) : (chr r).length ≤ 11 := by
 rw [chr_eq]
 unfold X.codeB
 have := X.hexd_len 5 (max 0 (min r 1114111)).toNat (by omega)
 simp
 omega
theorem rangesT_snoc (b : Bool) : ∀ (rs : Rs) (r : U.S.R), rangesT b (rs ++ [r]) = rangesT b rs ++ ((if (b || !rs.isEmpty) = true then [32] else []) ++ (chr r.1 ++ (if r.1 = r.2 then [] else 45 :: chr r.2)))
 | [], r => by simp [rangesT]
 | x :: rs, r => by
   rw [List.cons_append, rangesT, rangesT, rangesT_snoc true rs r]
   simp
theorem rangesT_len : ∀ (b : Bool) (rs : Rs), (∀ r ∈ rs, 0 ≤ r.1 ∧ r.1 ≤ 1114111 ∧ 0 ≤ r.2 ∧ r.2 ≤ 1114111) → (rangesT b rs).length ≤ 24 * rs.length
 | _, [], _ => by simp [rangesT]
 | b, r :: rs, h => by
   have h1 := h r (by simp)
   have h2 := chr_len h1.1 h1.2.1
   have h3 := chr_len h1.2.2.1 h1.2.2.2
   have h4 := rangesT_len true rs (fun x hx => h x (by simp [hx]))
   rw [rangesT]
   simp only [List.length_append, List.length_cons]
   split <;> split <;> simp <;> omega
end E
set_option maxRecDepth 100000 in
set_option maxHeartbeats 1000000 in
theorem charText_any (r : Int) (h0 : 0 ≤ r) (h1 : r ≤ 1114111) (w : World) (hd : Deb w) : Calls Tryz.prog 124 #[.int .i32 r] w fun e w' => e = .returned (.string ⟨(E.chr r).toArray⟩) ∧ Below w.heap.size w w' := by
 have hal := al1 w (.cells #[.int .i64 4, .int .i64 0, .string ⟨#[]⟩, .int .i32 r] 77)
 have hx := heap_alloc_new w (.cells #[.int .i64 4, .int .i64 0, .string ⟨#[]⟩, .int .i32 r] 77)
 obtain ⟨c0, c1, c2, c3⟩ := cells_four hx
 have hp := print_lex (some ⟨w.heap.size, 0, none⟩) 1 [(⟨4, [], r⟩, 0)] (by simp) (fun p hp => by
   obtain rfl : p = (⟨4, [], r⟩, 0) := by simpa using hp
   exact ⟨by simp, fun _ => ⟨h0, h1⟩⟩) (w.alloc (.cells #[.int .i64 4, .int .i64 0, .string ⟨#[]⟩, .int .i32 r] 77)) (fun i hi => by
   obtain rfl : i = 0 := by simp at hi; omega
   exact ⟨w.heap.size, 0, rfl, c0, c1, c2, c3⟩) (hd.later hal)
 rw [show ([(⟨4, [], r⟩, 0)] : List (X.Tk × Nat)).map Prod.fst = [⟨4, [], r⟩] from rfl, show X.tailP false [⟨4, [], r⟩] = E.chr r from rfl] at hp
 generalize E.chr r = cs at *
 clear hx c0 c1 c2 c3
 go_enter Tryz.func124, Tryz.ntmps124
 go_wp2_with fail
 refine hp.mono ?_
 rintro e w1 ⟨rfl, hb⟩
 go_wp2
 go_ret
 exact ⟨rfl, nx hal hb⟩
theorem cells_two' {W : World} {k : Nat} {u v : Value} {t : TypeId} (h : W.heap[k]? = some (.cells #[u, v] t)) : W.cell? ⟨k, 0, none⟩ = some u ∧ W.cell? ⟨k, 1, none⟩ = some v := by
 simp [World.cell?, h]
theorem Deb.below {w W : World} (h : Deb w) {n : Nat} (hb : Below n w W) (hn : 8 < n := by omega) : Deb W := (hb.cell (p := ⟨8, 15, none⟩) hn).trans h
theorem elemSize23k (w : World) : (sizeOf (Tryz.prog.elem 23)).run Tryz.prog w = .ok 2 w := by kernel_rfl
set_option maxRecDepth 100000 in
set_option maxHeartbeats 4000000 in
theorem writeSet_any (B b : Nat) (l : List UInt8) (ao : Option Addr) (cap : Nat) (s : E.Rs) (hs : ∀ r ∈ s, 0 ≤ r.1 ∧ r.1 ≤ 1114111 ∧ 0 ≤ r.2 ∧ r.2 ≤ 1114111) (hlen : s.length ≤ 1000) (hl : l.length ≤ 8900000) (w0 w : World) (hB0 : w0.heap.size = B) (hb0 : Below B w0 w) (hd : Deb w0) (hrd : U.RdR w0 ao s) (hbd : Bd B b l w) (hBb : B ≤ b) :
   Calls Tryz.prog 86 #[.pointer (some ⟨b, 0, none⟩), .slice ao s.length cap] w fun e w' => (∃ v, e = .returned v) ∧ Bd B b (l ++ E.setT s) w' ∧ Below B w0 w' ∧ Kpt b w w' := by
 subst hB0
 have hbs := hb0.size
 have h8 : 8 < w0.heap.size := U.cell_lt (a := ⟨8, 15, none⟩) hd
 have hwb := wbyte_k w0.heap.size b l 91 w hbd (by omega) hbs
 go_enter Tryz.func86, Tryz.ntmps86
 go_wp2_with fail
 refine hwb.mono ?_
 rintro e w1 ⟨rfl, hbd1, hb1, hk1⟩
 have hB1 := hb0.trans hb1
 clear hbd hb1 hwb
 go_wp2
 go_loopw [10] (fun u wr => ∃ i : Nat, u = .int .i64 (i : Int) ∧ i ≤ s.length ∧ Bd w0.heap.size b (l ++ [91] ++ E.rangesT false (s.take i)) wr ∧ Below w0.heap.size w0 wr ∧ Kpt b w wr) (fun u _ => s.length - (intOf u).toNat)
 case atStart => exact ⟨0, rfl, Nat.zero_le _, by simpa [E.rangesT] using hbd1, hB1, hk1⟩
 case round =>
   obtain ⟨i, rfl, hi, hbd, hB, hk⟩ := hrel
   by_cases hlt : i < s.length
   · obtain ⟨bb, off, rfl, c0, c1⟩ := hrd i hlt
     have hbl : bb < w0.heap.size := U.cell_lt c0
     have c0 := (hB.cell (p := ⟨bb, off + i * 2, none⟩) hbl).trans c0
     have c1 := (hB.cell (p := ⟨bb, off + i * 2 + 1, none⟩) hbl).trans c1
     have hr := hs _ (List.getElem_mem hlt)
     have HTK : Hid (s.take (i + 1) = s.take i ++ [s[i]]) := hide (List.take_succ_eq_append_getElem hlt)
     have hne : (s.take i).isEmpty = decide (i = 0) := by
       cases s with
       | nil => simp at hlt
       | cons x s => cases i <;> simp
     have HSN := hide (E.rangesT_snoc false (s.take i) s[i])
     rw [hne] at HSN
     have HRL : Hid ((E.rangesT false (s.take i)).length ≤ 24 * i) := hide (by
       have := E.rangesT_len false (s.take i) (fun r hr => hs r (List.mem_of_mem_take hr))
       rw [List.length_take] at this
       omega)
     generalize s[i] = r at *
     obtain ⟨lo, up⟩ := r
     simp only at c0 c1 hr HSN
     have HC := hide (E.chr_len hr.1 hr.2.1)
     have HC2 := hide (E.chr_len hr.2.2.1 hr.2.2.2)
     have HO : Hid (l ++ [91] ++ E.rangesT false (s.take (i + 1)) = (l ++ [91] ++ E.rangesT false (s.take i)) ++ ((if (false || !decide (i = 0)) = true then [32] else []) ++ (E.chr lo ++ (if lo = up then [] else 45 :: E.chr up)))) := hide (by
       rw [HTK.out, HSN.out]
       simp only [List.append_assoc])
     have HL : Hid ((l ++ [91] ++ E.rangesT false (s.take i)).length ≤ 8950000) := hide (by
       have := HRL.out
       simp
       omega)
     generalize l ++ [91] ++ E.rangesT false (s.take i) = o at *
     have hcat : (⟨#[45]⟩ : ByteArray) ++ ⟨(E.chr up).toArray⟩ = ⟨(45 :: E.chr up).toArray⟩ := by apply ByteArray.ext; simp
     have hcl : (E.chr up).length ≤ 11 := HC2.out
     have hal := al1 wr (.cells #[.int .i32 lo, .int .i32 up] 69)
     have hx5 := heap_alloc_new wr (.cells #[.int .i32 lo, .int .i32 up] 69)
     have hdd := hd.below hB
     have hix := elemSize23k
     have hbw : b < wr.heap.size := hbd.lt
     clear HTK HSN HRL hne
     by_cases h0 : i = 0
     · subst h0
       simp only [Nat.zero_mul, Nat.add_zero] at c0 c1
       by_cases he : lo = up
       · subst he
         simp only [decide_true, Bool.not_true, Bool.or_self, Bool.false_eq_true, if_false, if_true, List.nil_append, List.append_nil] at HO
         have hbd := hbd.later hal
         have hB := hB.trans (hal.mono (by have := hB.size; omega))
         have hk := hk.later hal
         have hdd := hdd.later hal
         obtain ⟨q0, q1⟩ := cells_two' hx5
         go_wp2_with fail
         refine (charText_any lo hr.1 hr.2.1 _ hdd).mono ?_
         rintro e x2 ⟨rfl, hbN⟩
         have hbd := hbd.later hbN
         have hB := hB.trans (hbN.mono (by have := hB.size; omega))
         have hk := hk.later hbN
         have hx5 := (hbN.block wr.heap.size (Array.getElem?_eq_some_iff.1 hx5).1).trans hx5
         have hdd := hdd.later hbN
         obtain ⟨q0, q1⟩ := cells_two' hx5
         clear hbN
         have hwc := wstr_k w0.heap.size b o ⟨(E.chr lo).toArray⟩ _ hbd (by have := HL.out; (try simp only [List.length_append, List.length_cons, List.length_nil]); omega) (by have := HC.out; show (E.chr lo).toArray.size ≤ _; simp; omega) hB.size
         go_wp2_with fail
         refine hwc.mono ?_
         rintro e x3 ⟨rfl, hbd2, hbN, hkN⟩
         have hbd := hbd2
         have hx5 := hkN _ _ _ _ hx5 (by decide) (by omega)
         have hdd := hdd.below hbN
         have hB := hB.trans hbN
         have hk := hk.trans hkN
         obtain ⟨q0, q1⟩ := cells_two' hx5
         clear hbN hkN hbd2 hwc
         go_wp2
         go_roundw
         case rel => exact ⟨0 + 1, by go_num, by omega, by rw [HO.out]; simpa [bts] using hbd, hB, hk⟩
         case measure => simp [intOf]; omega
       · have ene : (lo != up) = true := by simpa using he
         rw [if_neg he] at HO
         simp only [decide_true, Bool.not_true, Bool.or_self, Bool.false_eq_true, if_false, List.nil_append] at HO
         clear he
         have hbd := hbd.later hal
         have hB := hB.trans (hal.mono (by have := hB.size; omega))
         have hk := hk.later hal
         have hdd := hdd.later hal
         obtain ⟨q0, q1⟩ := cells_two' hx5
         go_wp2_with fail
         refine (charText_any lo hr.1 hr.2.1 _ hdd).mono ?_
         rintro e x2 ⟨rfl, hbN⟩
         have hbd := hbd.later hbN
         have hB := hB.trans (hbN.mono (by have := hB.size; omega))
         have hk := hk.later hbN
         have hx5 := (hbN.block wr.heap.size (Array.getElem?_eq_some_iff.1 hx5).1).trans hx5
         have hdd := hdd.later hbN
         obtain ⟨q0, q1⟩ := cells_two' hx5
         clear hbN
         have hwc := wstr_k w0.heap.size b o ⟨(E.chr lo).toArray⟩ _ hbd (by have := HL.out; (try simp only [List.length_append, List.length_cons, List.length_nil]); omega) (by have := HC.out; show (E.chr lo).toArray.size ≤ _; simp; omega) hB.size
         go_wp2_with fail
         refine hwc.mono ?_
         rintro e x3 ⟨rfl, hbd2, hbN, hkN⟩
         have hbd := hbd2
         have hx5 := hkN _ _ _ _ hx5 (by decide) (by omega)
         have hdd := hdd.below hbN
         have hB := hB.trans hbN
         have hk := hk.trans hkN
         obtain ⟨q0, q1⟩ := cells_two' hx5
         clear hbN hkN hbd2 hwc
         go_wp2_with fail
         refine (charText_any up hr.2.2.1 hr.2.2.2 _ hdd).mono ?_
         rintro e x4 ⟨rfl, hbN⟩
         have hbd := hbd.later hbN
         have hB := hB.trans (hbN.mono (by have := hB.size; omega))
         have hk := hk.later hbN
         have hx5 := (hbN.block wr.heap.size (Array.getElem?_eq_some_iff.1 hx5).1).trans hx5
         have hdd := hdd.later hbN
         obtain ⟨q0, q1⟩ := cells_two' hx5
         clear hbN
         have hwc := wstr_k w0.heap.size b (o ++ E.chr lo) ⟨(45 :: E.chr up).toArray⟩ _ hbd (by simp; have := HL.out; have := HC.out; omega) (by have := HC2.out; show (45 :: E.chr up).toArray.size ≤ _; simp; omega) hB.size
         go_wp2_with fail
         refine hwc.mono ?_
         rintro e x5 ⟨rfl, hbd2, hbN, hkN⟩
         have hbd := hbd2
         have hx5 := hkN _ _ _ _ hx5 (by decide) (by omega)
         have hdd := hdd.below hbN
         have hB := hB.trans hbN
         have hk := hk.trans hkN
         obtain ⟨q0, q1⟩ := cells_two' hx5
         clear hbN hkN hbd2 hwc
         go_wp2
         go_roundw
         case rel => exact ⟨0 + 1, by go_num, by omega, by rw [HO.out]; simpa [bts] using hbd, hB, hk⟩
         case measure => simp [intOf]; omega
     · have ei : decide ((0 : Int) < (i : Int)) = true := by simp; omega
       have ei2 : decide (0 < i) = true := by simp; omega
       by_cases he : lo = up
       · subst he
         simp only [decide_eq_false h0, Bool.not_false, Bool.or_true, if_true, List.append_nil] at HO
         clear h0
         have hbd := hbd.later hal
         have hB := hB.trans (hal.mono (by have := hB.size; omega))
         have hk := hk.later hal
         have hdd := hdd.later hal
         obtain ⟨q0, q1⟩ := cells_two' hx5
         have hwc := wbyte_k w0.heap.size b o 32 _ hbd (by have := HL.out; omega) hB.size
         go_wp2_with fail
         refine hwc.mono ?_
         rintro e x1 ⟨rfl, hbd2, hbN, hkN⟩
         have hbd := hbd2
         have hx5 := hkN _ _ _ _ hx5 (by decide) (by omega)
         have hdd := hdd.below hbN
         have hB := hB.trans hbN
         have hk := hk.trans hkN
         obtain ⟨q0, q1⟩ := cells_two' hx5
         clear hbN hkN hbd2 hwc
         go_wp2_with fail
         refine (charText_any lo hr.1 hr.2.1 _ hdd).mono ?_
         rintro e x2 ⟨rfl, hbN⟩
         have hbd := hbd.later hbN
         have hB := hB.trans (hbN.mono (by have := hB.size; omega))
         have hk := hk.later hbN
         have hx5 := (hbN.block wr.heap.size (Array.getElem?_eq_some_iff.1 hx5).1).trans hx5
         have hdd := hdd.later hbN
         obtain ⟨q0, q1⟩ := cells_two' hx5
         clear hbN
         have hwc := wstr_k w0.heap.size b (o ++ [32]) ⟨(E.chr lo).toArray⟩ _ hbd (by have := HL.out; (try simp only [List.length_append, List.length_cons, List.length_nil]); omega) (by have := HC.out; show (E.chr lo).toArray.size ≤ _; simp; omega) hB.size
         go_wp2_with fail
         refine hwc.mono ?_
         rintro e x3 ⟨rfl, hbd2, hbN, hkN⟩
         have hbd := hbd2
         have hx5 := hkN _ _ _ _ hx5 (by decide) (by omega)
         have hdd := hdd.below hbN
         have hB := hB.trans hbN
         have hk := hk.trans hkN
         obtain ⟨q0, q1⟩ := cells_two' hx5
         clear hbN hkN hbd2 hwc
         go_wp2
         go_roundw
         case rel => exact ⟨i + 1, by go_num, by omega, by rw [HO.out]; simpa [bts] using hbd, hB, hk⟩
         case measure => simp [intOf]; omega
       · have ene : (lo != up) = true := by simpa using he
         rw [if_neg he] at HO
         simp only [decide_eq_false h0, Bool.not_false, Bool.or_true, if_true] at HO
         clear he h0
         have hbd := hbd.later hal
         have hB := hB.trans (hal.mono (by have := hB.size; omega))
         have hk := hk.later hal
         have hdd := hdd.later hal
         obtain ⟨q0, q1⟩ := cells_two' hx5
         have hwc := wbyte_k w0.heap.size b o 32 _ hbd (by have := HL.out; omega) hB.size
         go_wp2_with fail
         refine hwc.mono ?_
         rintro e x1 ⟨rfl, hbd2, hbN, hkN⟩
         have hbd := hbd2
         have hx5 := hkN _ _ _ _ hx5 (by decide) (by omega)
         have hdd := hdd.below hbN
         have hB := hB.trans hbN
         have hk := hk.trans hkN
         obtain ⟨q0, q1⟩ := cells_two' hx5
         clear hbN hkN hbd2 hwc
         go_wp2_with fail
         refine (charText_any lo hr.1 hr.2.1 _ hdd).mono ?_
         rintro e x2 ⟨rfl, hbN⟩
         have hbd := hbd.later hbN
         have hB := hB.trans (hbN.mono (by have := hB.size; omega))
         have hk := hk.later hbN
         have hx5 := (hbN.block wr.heap.size (Array.getElem?_eq_some_iff.1 hx5).1).trans hx5
         have hdd := hdd.later hbN
         obtain ⟨q0, q1⟩ := cells_two' hx5
         clear hbN
         have hwc := wstr_k w0.heap.size b (o ++ [32]) ⟨(E.chr lo).toArray⟩ _ hbd (by have := HL.out; (try simp only [List.length_append, List.length_cons, List.length_nil]); omega) (by have := HC.out; show (E.chr lo).toArray.size ≤ _; simp; omega) hB.size
         go_wp2_with fail
         refine hwc.mono ?_
         rintro e x3 ⟨rfl, hbd2, hbN, hkN⟩
         have hbd := hbd2
         have hx5 := hkN _ _ _ _ hx5 (by decide) (by omega)
         have hdd := hdd.below hbN
         have hB := hB.trans hbN
         have hk := hk.trans hkN
         obtain ⟨q0, q1⟩ := cells_two' hx5
         clear hbN hkN hbd2 hwc
         go_wp2_with fail
         refine (charText_any up hr.2.2.1 hr.2.2.2 _ hdd).mono ?_
         rintro e x4 ⟨rfl, hbN⟩
         have hbd := hbd.later hbN
         have hB := hB.trans (hbN.mono (by have := hB.size; omega))
         have hk := hk.later hbN
         have hx5 := (hbN.block wr.heap.size (Array.getElem?_eq_some_iff.1 hx5).1).trans hx5
         have hdd := hdd.later hbN
         obtain ⟨q0, q1⟩ := cells_two' hx5
         clear hbN
         have hwc := wstr_k w0.heap.size b ((o ++ [32]) ++ E.chr lo) ⟨(45 :: E.chr up).toArray⟩ _ hbd (by simp; have := HL.out; have := HC.out; omega) (by have := HC2.out; show (45 :: E.chr up).toArray.size ≤ _; simp; omega) hB.size
         go_wp2_with fail
         refine hwc.mono ?_
         rintro e x5 ⟨rfl, hbd2, hbN, hkN⟩
         have hbd := hbd2
         have hx5 := hkN _ _ _ _ hx5 (by decide) (by omega)
         have hdd := hdd.below hbN
         have hB := hB.trans hbN
         have hk := hk.trans hkN
         obtain ⟨q0, q1⟩ := cells_two' hx5
         clear hbN hkN hbd2 hwc
         go_wp2
         go_roundw
         case rel => exact ⟨i + 1, by go_num, by omega, by rw [HO.out]; simpa [bts] using hbd, hB, hk⟩
         case measure => simp [intOf]; omega
   · obtain rfl : i = s.length := by omega
     rw [List.take_length] at hbd
     have HRL := hide (E.rangesT_len false s hs)
     have HO : Hid (l ++ E.setT s = (l ++ [91] ++ E.rangesT false s) ++ [93]) := hide (by simp [E.setT])
     have HL : Hid ((l ++ [91] ++ E.rangesT false s).length ≤ 8950000) := hide (by
       have := HRL.out
       simp
       omega)
     generalize l ++ [91] ++ E.rangesT false s = o at *
     have hwc := wbyte_k w0.heap.size b o 93 wr hbd (by have := HL.out; omega) hB.size
     go_wp2_with fail
     refine hwc.mono ?_
     rintro e x1 ⟨rfl, hbd2, hbN, hkN⟩
     go_wp2
     go_end0
     exact ⟨⟨_, rfl⟩, by rw [HO.out]; exact hbd2, hB.trans hbN, hk.trans hkN⟩
end Go.Proofs.YteaaijhppmkfeaaGreatDoor
