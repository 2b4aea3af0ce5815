/- What RegexNests says: the values; the walk. -/
import Derived.Test.YtamhjnemmdcniaaGreatDoorKwn
namespace Go.Proofs.YtamhjnemmdcniaaGreatDoor
open Go.RowKit Go.Shelf
open E (T)
attribute [local go_sem] Oper.semAt_some
def clo (st : Bool) : List UInt8 := if st = true then [41, 42] else [41]
def tx (n : Nat) (st : Bool) : List UInt8 := List.replicate n 40 ++ ([39, 97] ++ (List.replicate n (clo st)).flatten)
def nst (n : Nat) : Nat → Bool → T
  | 0, _ => .mk 1 n [(97, 97)] [] []
  | k + 1, st => if st = true then .mk 6 n [] [] [nst n k st] else nst n k st
set_option maxRecDepth 100000 in
theorem nest_ok (n : Nat) (h : n ≤ 20) (st : Bool) : E.parse (tx n st) = .ok (nst n n st) := by
  obtain rfl | rfl | rfl | rfl | rfl | rfl | rfl | rfl | rfl | rfl | rfl | rfl | rfl | rfl | rfl | rfl | rfl | rfl | rfl | rfl | rfl : n = 0 ∨ n = 1 ∨ n = 2 ∨ n = 3 ∨ n = 4 ∨ n = 5 ∨ n = 6 ∨ n = 7 ∨ n = 8 ∨ n = 9 ∨ n = 10 ∨ n = 11 ∨ n = 12 ∨ n = 13 ∨ n = 14 ∨ n = 15 ∨ n = 16 ∨ n = 17 ∨ n = 18 ∨ n = 19 ∨ n = 20 := by omega
  all_goals cases st <;> kernel_rfl
set_option maxRecDepth 100000 in
theorem nest_err (n : Nat) (h : 20 < n) (h' : n < 26) (st : Bool) : E.parse (tx n st) = .error (71, 20) := by
  obtain rfl | rfl | rfl | rfl | rfl : n = 21 ∨ n = 22 ∨ n = 23 ∨ n = 24 ∨ n = 25 := by omega
  all_goals cases st <;> kernel_rfl
theorem nst_at (n : Nat) (st : Bool) : ∀ k, (nst n k st).at_ = n
  | 0 => rfl
  | k + 1 => by
    rw [nst]
    split
    · rfl
    · exact nst_at n st k
theorem nst_pre (n : Nat) (st : Bool) : ∀ k, E.cnt (E.pre (nst n k st) (nst n k st)) = 1 ∧ (E.pre (nst n k st) (nst n k st)).length ≤ k + 1
  | 0 => by simp [nst, E.pre, E.preK, E.cnt, T.kind]
  | k + 1 => by
    have ih := nst_pre n st k
    rw [nst]
    split
    · rw [E.pre, T.kids, E.preK, E.preK_nil, List.append_nil]
      refine ⟨?_, by rw [List.length_cons]; omega⟩
      have := ih.1
      unfold E.cnt at this ⊢
      rw [List.countP_cons, this]
      simp [T.kind]
    · exact ⟨ih.1, by omega⟩
theorem bts_app (a b : ByteArray) : bts (a ++ b) = bts a ++ bts b := by
  unfold bts
  simp
theorem TR.atE {w : World} {ok : Nat → Prop} {t : T} {d : ND} (h : TR w ok t d.v) : d.a = t.at_ := by
  cases t with
  | mk k a s n ks =>
    rw [TR] at h
    obtain ⟨sp, sc, kp, kc, e, _⟩ := h
    unfold ND.v at e
    simp only [Value.agg.injEq, Array.mk.injEq, List.cons.injEq, Value.int.injEq] at e
    exact e.2.1.2
theorem clo_len (i : Nat) (st : Bool) : ((List.replicate i (clo st)).flatten).length = i * (clo st).length := by
  simp
theorem AnsP.ok' {s : List UInt8} {t : T} {w w' : World} {e : Ending} (hs : E.parse s = .ok t) (h : AnsP (E.parse s) w e w') : Below w.heap.size w w' ∧ ∃ d : ND, e = .returned (.tuple #[d.v, .int .i64 0, .int .i64 0]) ∧ TR w' (fun _ => True) t d.v := AnsP.ok (by rw [← hs]; exact h)
set_option maxRecDepth 100000 in
set_option maxHeartbeats 1000000 in
theorem nests_any (x : UInt8) (st : Bool) (w : World) (ht : Tabs w) (hd : Deb w) : Calls Tryz.prog 7 #[.int .u8 (x.toNat : Int), .bool st] w fun e w' => e = .returned (.bool true) ∧ Below w.heap.size w w' := by
  have hk := known_any w ht hd
  have hx := x.toNat_lt
  have HS := hide (Eq.refl st)
  have hm : (x.toNat : Int) % 26 = ((x.toNat % 26 : Nat) : Int) := by omega
  have hm26 : x.toNat % 26 < 26 := Nat.mod_lt _ (by decide)
  generalize hn : x.toNat % 26 = n at *
  go_enter Tryz.func7, Tryz.ntmps7
  go_wp2_with fail
  refine hk.mono ?_
  rintro e w1 ⟨rfl, hb1⟩
  clear hk
  go_wp2
  go_loopw [6, 7, 8] (fun p q u wr => ∃ (i : Nat) (A B : ByteArray), p = .string A ∧ q = .string B ∧ u = .int .i64 (i : Int) ∧ i ≤ n ∧ Hid (bts A = List.replicate i 40) ∧ Hid (bts B = (List.replicate i (clo st)).flatten) ∧ wr = w1) (fun _ _ u _ => n - (intOf u).toNat)
  case atStart => exact ⟨0, _, _, rfl, rfl, rfl, Nat.zero_le _, hide rfl, hide rfl, by first | rfl | trivial⟩
  case round =>
    obtain ⟨i, A, B, rfl, rfl, rfl, hi, HA, HB, hwr⟩ := hrel
    obtain rfl := hwr.symm
    clear hwr
    have hAs : A.size ≤ 26 := by
      rw [← bts_len, HA.out, List.length_replicate]; omega
    have hBs : B.size ≤ 52 := by
      rw [← bts_len, HB.out, clo_len]
      cases st <;> simp [clo] <;> omega
    have hA2 : ∀ c : ByteArray, (A ++ c).size = A.size + c.size := fun c => ByteArray.size_append
    have hB2 : ∀ c : ByteArray, (B ++ c).size = B.size + c.size := fun c => ByteArray.size_append
    by_cases hlt : i < n
    · cases st with
      | false =>
        go_wp2
        go_roundw
        case rel => exact ⟨i + 1, _, _, rfl, rfl, by go_num, by omega, hide (by rw [bts_app, HA.out, List.replicate_succ']; rfl), hide (by rw [bts_app, HB.out, List.replicate_succ', List.flatten_append]; rfl), by first | rfl | trivial⟩
        case measure => simp [intOf]; omega
      | true =>
        go_wp2
        go_roundw
        case rel => exact ⟨i + 1, _, _, rfl, rfl, by go_num, by omega, hide (by rw [bts_app, HA.out, List.replicate_succ']; rfl), hide (by rw [bts_app, bts_app, HB.out, List.replicate_succ', List.flatten_append, List.append_assoc]; rfl), by first | rfl | trivial⟩
        case measure => simp [intOf]; omega
    · obtain rfl : i = n := by omega
      have HX : Hid (bts (A ++ ⟨#[39, 97]⟩ ++ B) = tx i st) := hide (by rw [bts_app, bts_app, HA.out, HB.out, List.append_assoc]; rfl)
      have hsz : (A ++ ⟨#[39, 97]⟩ ++ B).size ≤ 39999 := by rw [ByteArray.size_append, hA2]; show A.size + 2 + B.size ≤ 39999; omega
      have hpa := parse_any (A ++ ⟨#[39, 97]⟩ ++ B) hsz w1 (ht.later hb1)
      rw [HX.out] at hpa
      by_cases h20 : i ≤ 20
      · have e20 : decide ((20 : Int) < (i : Int)) = false := decide_eq_false (by omega)
        rw [nest_ok i h20 st] at hpa
        go_wp2_with fail
        refine hpa.mono ?_
        intro e w2 ha
        obtain ⟨hb2, d, rfl, htr⟩ := ha.ok
        have hda := htr.atE
        rw [nst_at] at hda
        have HDA := hide hda
        clear hda
        have a1 := al1 w2 (.cells #[.int .i64 d.k, .int .i64 d.a, .slice d.sp d.sl d.sc, .string d.n, .slice d.kp d.kl d.kc] 26)
        have n1 := heap_alloc_new w2 (.cells #[.int .i64 d.k, .int .i64 d.a, .slice d.sp d.sl d.sc, .string d.n, .slice d.kp d.kl d.kc] 26)
        obtain ⟨X1, hX1⟩ : ∃ X1, w2.alloc (.cells #[.int .i64 d.k, .int .i64 d.a, .slice d.sp d.sl d.sc, .string d.n, .slice d.kp d.kl d.kc] 26) = X1 := ⟨_, rfl⟩
        rw [hX1] at a1 n1
        obtain ⟨r0, r1, r2, r3, r4⟩ := cells_five n1
        have HN := hide n1
        have bW := nx hb1 (nx hb2 a1)
        have hpl := places_any _ d X1 (TR.later (fun k hk => a1.block k hk) _ htr) (by have := (nst_pre i st i).2; omega)
        rw [(nst_pre i st i).1] at hpl
        unfold ND.v at hpl ⊢
        clear hpa ha htr n1
        go_wp2_with fail
        with_reducible refine hpl.mono ?_
        rintro e X2 ⟨rfl, hb3⟩
        have m1 := (hb3.block w2.heap.size (Array.getElem?_eq_some_iff.1 HN.out).1).trans HN.out
        obtain ⟨j0, j1, j2, j3, j4⟩ := cells_five m1
        have bW2 := nx bW hb3
        rw [HDA.out] at j1
        clear hpl hX1 r0 r1 r2 r3 r4 m1
        go_wp2
        go_ret
        exact ⟨rfl, bW2⟩
      · have e20 : decide ((20 : Int) < (i : Int)) = true := decide_eq_true (by omega)
        rw [nest_err i (by omega) (by omega) st] at hpa
        go_wp2_with fail
        refine hpa.mono ?_
        intro e w2 ha
        obtain ⟨hb2, rfl⟩ := ha.err
        clear hpa ha
        have bW := nx hb1 (nx hb2 (al1 w2 (.cells #[.int .i64 0, .int .i64 0, .slice none 0 0, .string ⟨#[]⟩, .slice none 0 0] 26)))
        unfold zN
        go_wp2
        go_ret
        exact ⟨rfl, bW⟩
theorem nests_u8 (n : Int) (h : 0 ≤ n ∧ n ≤ 255) (st : Bool) (w : World) (ht : Tabs w) (hd : Deb w) : Calls Tryz.prog 7 #[.int .u8 n, .bool st] w fun e w' => e = .returned (.bool true) ∧ Below w.heap.size w w' := by
  have hn : ((UInt8.ofNat n.toNat).toNat : Int) = n := by
    rw [UInt8.toNat_ofNat']
    omega
  have := nests_any (UInt8.ofNat n.toNat) st w ht hd
  rw [hn] at this
  exact this
end Go.Proofs.YtamhjnemmdcniaaGreatDoor
