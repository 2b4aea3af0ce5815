/- New. -/
import Derived.Test.YtemanednddhfaaaGreatDoorPlp
namespace Go.Proofs.YtemanednddhfaaaGreatDoor
open Go.RowKit Go.Shelf
attribute [local go_sem] Oper.semAt_some
open E (T)
namespace PA
def auto (t : T) : Au := ⟨(add t []).1, (add t []).2⟩
/-- An expression without variables. -/
def Acc (t : T) : Prop := E.IsP t ∧ E.nmL t = []
theorem okt_of {t : T} (h : E.IsP t) : Okt t := fun p hp => by
  obtain ⟨h1, h2⟩ := h.2 p hp
  refine ⟨h1, ?_⟩
  rcases h2 with ⟨_, _, h3, _⟩ | ⟨_, h3, _⟩ | ⟨_, _, h3, _⟩
  · exact h3
  · rw [h3]; decide
  · rw [h3]; decide
theorem names_of {t : T} (h : E.IsP t) : ∀ p ∈ E.pre t t, p.1.name.length ≤ 100000 := fun p hp => by
  obtain ⟨h1, h2⟩ := h.2 p hp
  rcases h2 with ⟨_, h3, _⟩ | ⟨_, _, h3⟩ | ⟨_, _, _, h3⟩
  · rw [h3]; decide
  · unfold E.nameP at h3
    simp only [Bool.and_eq_true, decide_eq_true_eq] at h3
    omega
  · rw [h3]; decide
theorem auto_len {t : T} (h : Okt t) : (auto t).pl.length = ct t := by
  have := (gd_tree h).len []
  simpa [auto] using this
theorem auto_fl {t : T} (h : Okt t) : ∀ p ∈ (auto t).pl, p.2 < 2 ^ (auto t).pl.length := by
  have := (gd_tree h).fl [] (fun p hp => by cases hp)
  rw [auto_len h]
  simpa [auto] using this
theorem auto_f {t : T} (h : Okt t) : (auto t).w.f < 2 ^ (auto t).pl.length ∧ (auto t).w.l < 2 ^ (auto t).pl.length := by
  have h1 := (gd_tree h).f []
  have h2 := (gd_tree h).l []
  rw [auto_len h]
  simp only [List.length_nil, Nat.zero_add] at h1 h2
  exact ⟨h1, h2⟩
end PA
theorem deb_pos {w : World} (h : Deb w) : 0 < w.heap.size := by
  have := h 0 (by decide)
  exact U.cell_lt this
theorem AutoW.ends {w : World} {B A : Nat} {v : Value} {qs : List (PA.Pl × Value)} {x : PA.En} (h : AutoW w B A v qs x) (y : PA.En) :
    AutoW (((w.setCell ⟨A, 1, none⟩ (.int .u64 (y.f : Int))).setCell ⟨A, 2, none⟩ (.int .u64 (y.l : Int))).setCell ⟨A, 3, none⟩ (.bool y.n)) B A v qs y := by
  have hne : ∀ k, k ≠ A → (((w.setCell ⟨A, 1, none⟩ (.int .u64 (y.f : Int))).setCell ⟨A, 2, none⟩ (.int .u64 (y.l : Int))).setCell ⟨A, 3, none⟩ (.bool y.n)).heap[k]? = w.heap[k]? := fun k hk => (Below.heap_setCell _ _ _ _ hk).trans ((Below.heap_setCell _ _ _ _ hk).trans (Below.heap_setCell _ _ _ _ hk))
  refine ⟨(U.set_at _ (U.set_at _ (U.set_at _ h.box))).trans rfl, own_same h.own fun k hk => hne k ?_, fun q hq => own_same (h.set q hq) fun k hk => hne k ?_, h.le⟩
  · rintro rfl
    obtain ⟨_, _, cur, hcur⟩ := own_type h.own hk
    rw [h.box] at hcur; cases hcur
  · rintro rfl
    obtain ⟨_, _, cur, hcur⟩ := own_type (h.set q hq) hk
    rw [h.box] at hcur; cases hcur
theorem OwnN.rd' {w : World} {B : Nat} {v : Value} {ss : List (List UInt8)} (h : OwnN w B v ss) : ∃ ao c, v = .slice ao ss.length c := by
  obtain ⟨_, ⟨rfl, h0⟩ | ⟨g, cap, _, rfl, _⟩⟩ := h
  · exact ⟨none, 0, by rw [h0]⟩
  · exact ⟨_, _, rfl⟩
/-- What New answers. -/
def AnsW (t : T) (w : World) (e : Ending) (W : World) : Prop :=
  Below w.heap.size w W ∧ ((¬ PA.Acc t ∧ e = .returned (.tuple #[.pointer none, .int .i64 70])) ∨ (PA.Acc t ∧ 60 < PA.ct t ∧ e = .returned (.tuple #[.pointer none, .int .i64 72])) ∨
    (PA.Acc t ∧ PA.ct t ≤ 60 ∧ ∃ A, e = .returned (.tuple #[.pointer (some ⟨A, 0, none⟩), .int .i64 0]) ∧ AutoAt W w.heap.size A (PA.auto t).w (PA.auto t).pl))
set_option maxRecDepth 100000 in
set_option maxHeartbeats 4000000 in
theorem new_any (t : T) (d : ND) (w : World) (htab : Tabs w) (hdeb : Deb w) (hT : TR w (fun _ => True) t d.v) (hps : (E.pre t t).length ≤ 1000000) (hnb : ∀ p ∈ E.pre t t, E.NodeB p.1) : Calls Tryz.prog 12 #[d.v] w (AnsW t w) := by
  have b1 := al1 w (.cells #[.int .i64 d.k, .int .i64 d.a, .slice d.sp d.sl d.sc, .string d.n, .slice d.kp d.kl d.kc] 26)
  have n1 := heap_alloc_new w (.cells #[.int .i64 d.k, .int .i64 d.a, .slice d.sp d.sl d.sc, .string d.n, .slice d.kp d.kl d.kc] 26)
  have s1 : (w.alloc (.cells #[.int .i64 d.k, .int .i64 d.a, .slice d.sp d.sl d.sc, .string d.n, .slice d.kp d.kl d.kc] 26)).heap.size = w.heap.size + 1 := by simp
  obtain ⟨X, hX⟩ : ∃ X, w.alloc (.cells #[.int .i64 d.k, .int .i64 d.a, .slice d.sp d.sl d.sc, .string d.n, .slice d.kp d.kl d.kc] 26) = X := ⟨_, rfl⟩
  rw [hX] at b1 n1 s1
  obtain ⟨q0, q1, q2, q3, q4⟩ := cells_five n1
  have hlat : ∀ W, Below w.heap.size w W → TR W (fun _ => True) t d.v := fun W hb => TR.later (fun k hk => hb.block k hk) _ hT
  have hIs := is_any7 t d X (htab.later b1) (hlat X b1) hps hnb
  have HLAT := hide hlat
  have HT := hide hT
  have HD := hide hdeb
  unfold ND.v at hIs ⊢
  clear hlat hT hdeb
  go_enter Tryz.func12, Tryz.ntmps12
  go_wp2_with fail
  refine hIs.mono ?_
  rintro e W1 ⟨⟨b, rfl, hbI⟩, hb1⟩
  have B1 := nx b1 hb1
  have m1 := (hb1.block _ (by omega)).trans n1
  have z1 : w.heap.size + 1 ≤ W1.heap.size := by have := hb1.size; omega
  have HBI := hide hbI
  clear hIs hb1 hbI q0 q1 q2 q3 q4 n1 hX b1 s1
  cases b with
  | false =>
    have hno : ¬ PA.Acc t := fun h => by have := HBI.out.2 h.1; cases this
    have HNO := hide hno
    clear hno
    go_wp2
    exact bodyPost_ret (v := .tuple #[.pointer none, .int .i64 70]) (by simp [results, Tryz.results12, go_sem]) rfl ⟨B1, .inl ⟨HNO.out, rfl⟩⟩
  | true =>
    have hI := HBI.out.1 rfl
    have hN := names_any t d W1 (HLAT.out W1 B1) hps (PA.names_of hI)
    obtain ⟨q0, q1, q2, q3, q4⟩ := cells_five m1
    have HI := hide hI
    unfold ND.v at hN
    clear hI HBI
    go_wp2_with fail
    refine hN.mono ?_
    rintro e W2 ⟨u, rfl, ho, hb2⟩
    obtain ⟨ao, cN, rfl⟩ := ho.rd'
    have B2 := nx B1 hb2
    have m2 := (hb2.block _ (Array.getElem?_eq_some_iff.1 m1).1).trans m1
    have z2 : w.heap.size + 1 ≤ W2.heap.size := Nat.le_trans z1 hb2.size
    clear hN ho hb2 m1 z1 q0 q1 q2 q3 q4 B1
    by_cases hl : 0 < (E.nmL t).length
    · have HNO : Hid (¬ PA.Acc t) := hide (fun h => by rw [h.2] at hl; simp at hl)
      go_wp2
      exact bodyPost_ret (v := .tuple #[.pointer none, .int .i64 70]) (by simp [results, Tryz.results12, go_sem]) rfl ⟨B2, .inl ⟨HNO.out, rfl⟩⟩
    · have HAC : Hid (PA.Acc t) := hide ⟨HI.out, List.eq_nil_of_length_eq_zero (by omega)⟩
      have hP := places_any t d W2 (HLAT.out W2 B2) hps
      obtain ⟨q0, q1, q2, q3, q4⟩ := cells_five m2
      have hle : E.cnt (E.pre t t) ≤ 1000000 := Nat.le_trans (E.cnt_le _) hps
      have HCT : Hid (PA.ct t = E.cnt (E.pre t t)) := rfl
      generalize E.cnt (E.pre t t) = ct at *
      unfold ND.v at hP
      go_wp2_with fail
      refine hP.mono ?_
      rintro e W3 ⟨rfl, hb3⟩
      have B3 := nx B2 hb3
      have m3 := (hb3.block _ (Array.getElem?_eq_some_iff.1 m2).1).trans m2
      have z3 : w.heap.size + 1 ≤ W3.heap.size := Nat.le_trans z2 hb3.size
      clear hP hb3 m2 z2 q0 q1 q2 q3 q4 B2 hl
      by_cases hc : 60 < ct
      · have HC := hide hc
        go_wp2
        exact bodyPost_ret (v := .tuple #[.pointer none, .int .i64 72]) (by simp [results, Tryz.results12, go_sem]) rfl ⟨B3, .inr (.inl ⟨HAC.out, by rw [HCT.out]; exact HC.out, rfl⟩)⟩
      · have HC : Hid (PA.ct t ≤ 60) := hide (by rw [HCT.out]; omega)
        have a4 := al1 W3 (.cells #[.slice none 0 0, .int .u64 0, .int .u64 0, .bool false] 87)
        have n4 := heap_alloc_new W3 (.cells #[.slice none 0 0, .int .u64 0, .int .u64 0, .bool false] 87)
        have m4 := (a4.block _ (by omega)).trans m3
        have hA : AutoAt (W3.alloc (.cells #[.slice none 0 0, .int .u64 0, .int .u64 0, .bool false] 87)) w.heap.size W3.heap.size zE [] := ⟨.slice none 0 0, [], rfl, n4, World.ownsRow_nil _ _ _ _, fun q hq => (by cases hq), by omega⟩
        have B4 := nx B3 a4
        obtain ⟨X4, hX4⟩ : ∃ X4, W3.alloc (.cells #[.slice none 0 0, .int .u64 0, .int .u64 0, .bool false] 87) = X4 := ⟨_, rfl⟩
        rw [hX4] at hA m4 B4
        have hcall := add_any (PA.okt_of HI.out) w X4 W3.heap.size zE [] d (deb_pos HD.out) HD.out HT.out B4 hA (fun p hp => by cases hp) (by simpa using HC.out)
        obtain ⟨q0, q1, q2, q3, q4⟩ := cells_five m4
        have HAU : Hid (PA.add t [] = ((PA.auto t).pl, (PA.auto t).w)) := rfl
        rw [HAU.out] at hcall
        have HB4 := hide B4
        have HAA := hide hA
        obtain ⟨⟨pl, f, l, nu⟩, hau⟩ : ∃ au, PA.auto t = au := ⟨_, rfl⟩
        rw [hau] at hcall
        have HAE := hide hau
        clear hau
        unfold ND.v encE at hcall
        dsimp only at hcall
        clear m3 B3 a4 n4 hA B4
        go_wp2_with fail
        refine hcall.mono ?_
        rintro e W5 ⟨rfl, hA5, hp5⟩
        obtain ⟨v, qs, hqs, hA5⟩ := hA5
        have hbx := hA5.box
        have c1 : W5.cell? ⟨W3.heap.size, 1, none⟩ = some (.int .u64 (zE.f : Int)) := by simp [World.cell?, hbx]
        have c2 : W5.cell? ⟨W3.heap.size, 2, none⟩ = some (.int .u64 (zE.l : Int)) := by simp [World.cell?, hbx]
        have c3 : W5.cell? ⟨W3.heap.size, 3, none⟩ = some (.bool zE.n) := by simp [World.cell?, hbx]
        have f1 : W5.frozen? ⟨W3.heap.size, 1, none⟩ = false := by simp [World.frozen?, hbx]
        have f2 : W5.frozen? ⟨W3.heap.size, 2, none⟩ = false := by simp [World.frozen?, hbx]
        have f3 : W5.frozen? ⟨W3.heap.size, 3, none⟩ = false := by simp [World.frozen?, hbx]
        have HF := hide (hA5.ends ⟨f, l, nu⟩)
        have HQ := hide hqs
        have B5 := hp5.bel HB4.out
        have HB5 := hide (bl_set (bl_set (bl_set B5 (p := ⟨W3.heap.size, 1, none⟩) (by show w.heap.size ≤ W3.heap.size; omega) (.int .u64 (f : Int))) (p := ⟨W3.heap.size, 2, none⟩) (by show w.heap.size ≤ W3.heap.size; omega) (.int .u64 (l : Int))) (p := ⟨W3.heap.size, 3, none⟩) (by show w.heap.size ≤ W3.heap.size; omega) (.bool nu))
        clear hcall hA5 hp5 hbx hqs q0 q1 q2 q3 q4 hX4 m4 B5
        go_wp2
        exact bodyPost_ret (v := .tuple #[.pointer (some ⟨W3.heap.size, 0, none⟩), .int .i64 0]) (by simp [results, Tryz.results12, go_sem]) rfl ⟨HB5.out, .inr (.inr ⟨HAC.out, HC.out, W3.heap.size, rfl, by rw [HAE.out]; exact ⟨v, qs, HQ.out, HF.out⟩⟩)⟩
end Go.Proofs.YtemanednddhfaaaGreatDoor
