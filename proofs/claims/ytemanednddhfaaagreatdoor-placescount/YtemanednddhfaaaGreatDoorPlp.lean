/- add over two kids; add. -/
import Derived.Test.YtemanednddhfaaaGreatDoorPlo
namespace Go.Proofs.YtemanednddhfaaaGreatDoor
open Go.RowKit Go.Shelf
attribute [local go_sem] Oper.semAt_some
open E (T)
set_option maxRecDepth 100000 in
set_option maxHeartbeats 2000000 in
theorem add_alt {w0 w : World} {A kb koff : Nat} {x e1 e2 : PA.En} {st st1 st2 : List PA.Pl} {d0 d1 : ND} (a : Int) (nm : ByteArray) (sp : Option Addr) (sl sc kl kc : Nat) (hk0 : Cells5 w0 kb koff d0.v) (hk1 : Cells5 w0 kb (koff + 5) d1.v) (hkl : 2 ≤ kl) (h0 : 0 < w0.heap.size) (hd : Deb w0) (hb : Below w0.heap.size w0 w) (hA : AutoAt w w0.heap.size A x st) (he1 : e1.f < 2 ^ 64 ∧ e1.l < 2 ^ 64) (he2 : e2.f < 2 ^ 64 ∧ e2.l < 2 ^ 64)
    (hc1 : ∀ w, Below w0.heap.size w0 w → AutoAt w w0.heap.size A x st → Calls Tryz.prog 49 #[.pointer (some ⟨A, 0, none⟩), d0.v] w fun e W => e = .returned (encE e1) ∧ AutoAt W w0.heap.size A x st1 ∧ PF w0.heap.size A w W)
    (hc2 : ∀ w, Below w0.heap.size w0 w → AutoAt w w0.heap.size A x st1 → Calls Tryz.prog 49 #[.pointer (some ⟨A, 0, none⟩), d1.v] w fun e W => e = .returned (encE e2) ∧ AutoAt W w0.heap.size A x st2 ∧ PF w0.heap.size A w W) :
    Calls Tryz.prog 49 #[.pointer (some ⟨A, 0, none⟩), .agg #[.int .i64 5, .int .i64 a, .slice sp sl sc, .string nm, .slice (some ⟨kb, koff, none⟩) kl kc]] w fun e W => e = .returned (encE (PA.or e1 e2)) ∧ AutoAt W w0.heap.size A x st2 ∧ PF w0.heap.size A w W := by
  have he := ent_of h0 hd hb hA (.int .i64 5) (.int .i64 a) (.slice sp sl sc) (.string nm) (.slice (some ⟨kb, koff, none⟩) kl kc)
  obtain ⟨X, hX⟩ : ∃ X, (w.alloc (.cells #[.int .i64 5, .int .i64 a, .slice sp sl sc, .string nm, .slice (some ⟨kb, koff, none⟩) kl kc] 26)).alloc (.cells #[.int .u64 0, .int .u64 0, .bool false] 85) = X := ⟨_, rfl⟩
  rw [hX] at he
  obtain ⟨q0, q1, q2, q3, q4⟩ := cells_five he.box
  have HE := hide he
  have hB : w0.heap.size ≤ w.heap.size := hb.size
  have hkb := cells5_lt hk0
  have hk0X := hide (cells5_same hk0 ((he.belX.block kb (by omega)).trans (hb.block kb hkb)))
  have hk1X := hide (cells5_same hk1 ((he.belX.block kb (by omega)).trans (hb.block kb hkb)))
  have hbX : Below w0.heap.size w0 X := hb.trans (he.belX.mono hB)
  have hor := fun W => or_any e1 e2 he1.1 he1.2 he2.1 he2.2 W
  clear he hA hd h0 hk0 hk1
  go_enter Tryz.func49, Tryz.ntmps49
  go_wp2
  refine regA _ _ rfl rfl rfl HE.out.box hkl hkb hk0X.out hk1X.out HE.out.au (fun w' ha hp => hc1 w' (hp.bel hbX) ha) (fun w' ha hp => hc2 w' (hp.bel hbX) ha) ?_
  intro bx bz W hne hxl hzl hx hz ha hp
  simp only [Reg.ov, Act.put, List.setIfInBounds_toArray, List.set_cons_succ, List.set_cons_zero]
  have hp2 := (PF.of HE.out.belX hB).trans hp
  have r2 := hp.at_ HE.out.res (by have := HE.out.al; omega) (by decide)
  obtain ⟨x0, x1, x2, _, _, _⟩ := cells_three hx
  obtain ⟨z0, z1, z2, _, _, _⟩ := cells_three hz
  unfold encE at hor
  unfold encE
  clear hp hx hz q0 q1 q2 q3 q4 hX hk0X hk1X hc1 hc2 hbX
  go_wp2_with fail
  refine (hor _).mono ?_
  rintro e W3 ⟨rfl, hb3⟩
  have HP := hide (hp2.trans (PF.of hb3 (by have := hp2.size; omega)))
  have HA := hide (ha.later hb3)
  have HR := hide ((hb3.block _ (Array.getElem?_eq_some_iff.1 r2).1).trans r2)
  clear hp2 ha r2 hb3 hor x0 x1 x2 z0 z1 z2
  obtain ⟨p0, p1, p2, f0, f1, f2⟩ := cells_three HR.out
  go_wp2
  exact ret49 (y := PA.or e1 e2) HP.out hB HR.out HA.out rfl fun W' h1 h2 => ⟨rfl, h1, h2⟩
set_option maxRecDepth 100000 in
set_option maxHeartbeats 2000000 in
theorem add_cat {w0 w : World} {A kb koff : Nat} {x e1 e2 : PA.En} {st st1 st2 : List PA.Pl} {d0 d1 : ND} (a : Int) (nm : ByteArray) (sp : Option Addr) (sl sc kl kc : Nat) (hk0 : Cells5 w0 kb koff d0.v) (hk1 : Cells5 w0 kb (koff + 5) d1.v) (hkl : 2 ≤ kl) (h0 : 0 < w0.heap.size) (hd : Deb w0) (hb : Below w0.heap.size w0 w) (hA : AutoAt w w0.heap.size A x st) (hj1 : e1.l < 2 ^ st2.length) (hj2 : e2.f < 2 ^ st2.length) (hj3 : ∀ p ∈ st2, p.2 < 2 ^ st2.length) (hj4 : st2.length ≤ 60) (he1 : e1.f < 2 ^ 64 ∧ e1.l < 2 ^ 64) (he2 : e2.f < 2 ^ 64 ∧ e2.l < 2 ^ 64)
    (hc1 : ∀ w, Below w0.heap.size w0 w → AutoAt w w0.heap.size A x st → Calls Tryz.prog 49 #[.pointer (some ⟨A, 0, none⟩), d0.v] w fun e W => e = .returned (encE e1) ∧ AutoAt W w0.heap.size A x st1 ∧ PF w0.heap.size A w W)
    (hc2 : ∀ w, Below w0.heap.size w0 w → AutoAt w w0.heap.size A x st1 → Calls Tryz.prog 49 #[.pointer (some ⟨A, 0, none⟩), d1.v] w fun e W => e = .returned (encE e2) ∧ AutoAt W w0.heap.size A x st2 ∧ PF w0.heap.size A w W) :
    Calls Tryz.prog 49 #[.pointer (some ⟨A, 0, none⟩), .agg #[.int .i64 4, .int .i64 a, .slice sp sl sc, .string nm, .slice (some ⟨kb, koff, none⟩) kl kc]] w fun e W => e = .returned (encE (PA.ahead e1 e2)) ∧ AutoAt W w0.heap.size A x (PA.join e1.l e2.f st2) ∧ PF w0.heap.size A w W := by
  have he := ent_of h0 hd hb hA (.int .i64 4) (.int .i64 a) (.slice sp sl sc) (.string nm) (.slice (some ⟨kb, koff, none⟩) kl kc)
  obtain ⟨X, hX⟩ : ∃ X, (w.alloc (.cells #[.int .i64 4, .int .i64 a, .slice sp sl sc, .string nm, .slice (some ⟨kb, koff, none⟩) kl kc] 26)).alloc (.cells #[.int .u64 0, .int .u64 0, .bool false] 85) = X := ⟨_, rfl⟩
  rw [hX] at he
  obtain ⟨q0, q1, q2, q3, q4⟩ := cells_five he.box
  have HE := hide he
  have hB : w0.heap.size ≤ w.heap.size := hb.size
  have hkb := cells5_lt hk0
  have hk0X := hide (cells5_same hk0 ((he.belX.block kb (by omega)).trans (hb.block kb hkb)))
  have hk1X := hide (cells5_same hk1 ((he.belX.block kb (by omega)).trans (hb.block kb hkb)))
  have hbX : Below w0.heap.size w0 X := hb.trans (he.belX.mono hB)
  have hor := fun W => ahead_any e1 e2 he1.1 he1.2 he2.1 he2.2 W
  clear he hA hk0 hk1
  go_enter Tryz.func49, Tryz.ntmps49
  go_wp2
  refine regC _ _ rfl rfl rfl HE.out.box hkl hkb hk0X.out hk1X.out HE.out.au (fun w' ha hp => hc1 w' (hp.bel hbX) ha) (fun w' ha hp => hc2 w' (hp.bel hbX) ha) ?_
  intro bx bz W hne hxl hzl hx hz ha hp
  simp only [Reg.ov, Act.put, List.setIfInBounds_toArray, List.set_cons_succ, List.set_cons_zero]
  have hp2 := (PF.of HE.out.belX hB).trans hp
  have r2 := hp.at_ HE.out.res (by have := HE.out.al; omega) (by decide)
  have hJ := ha.join e1.l e2.f hj1 hj2 hj3 hj4 h0 (hd.later (hp2.bel hb))
  have hxA : bx ≠ A := by have := HE.out.al; have := HE.out.size; omega
  have hzA : bz ≠ A := by have := HE.out.al; have := HE.out.size; omega
  obtain ⟨x0, x1, x2, _, _, _⟩ := cells_three hx
  obtain ⟨z0, z1, z2, _, _, _⟩ := cells_three hz
  unfold encE at hor
  unfold encE
  clear hp q0 q1 q2 q3 q4 hX hk0X hk1X hc1 hc2 hbX h0 hd
  go_wp2_with fail
  refine hJ.mono ?_
  rintro e W2 ⟨⟨u, rfl⟩, ha, hpj⟩
  have hp2 := hp2.trans hpj
  have r2 := hpj.at_ r2 (by have := HE.out.al; omega) (by decide)
  have hx := EB.pf hx hpj hxA
  have hz := EB.pf hz hpj hzA
  clear hJ hpj x0 x1 x2 z0 z1 z2
  obtain ⟨x0, x1, x2, _, _, _⟩ := cells_three hx
  obtain ⟨z0, z1, z2, _, _, _⟩ := cells_three hz
  clear hx hz
  go_wp2_with fail
  refine (hor _).mono ?_
  rintro e W3 ⟨rfl, hb3⟩
  have HP := hide (hp2.trans (PF.of hb3 (by have := hp2.size; omega)))
  have HA := hide (ha.later hb3)
  have HR := hide ((hb3.block _ (Array.getElem?_eq_some_iff.1 r2).1).trans r2)
  clear hp2 ha r2 hb3 hor x0 x1 x2 z0 z1 z2
  obtain ⟨p0, p1, p2, f0, f1, f2⟩ := cells_three HR.out
  go_wp2
  exact ret49 (y := PA.ahead e1 e2) HP.out hB HR.out HA.out rfl fun W' h1 h2 => ⟨rfl, h1, h2⟩
theorem add_n : ∀ (n : Nat) (t : T), SizeOf.sizeOf t < n → PA.Okt t → AddOK t
  | 0, _, h, _ => absurd h (Nat.not_lt_zero _)
  | n + 1, .mk k a s nm ks, h, ho => by
    have ih : ∀ x ∈ ks, AddOK x := fun x hx => add_n n x (by
      have := List.sizeOf_lt_of_mem hx
      simp at h
      omega) (PA.okt_kid ho hx)
    have ho2 : ∀ x ∈ ks, PA.Okt x := fun x hx => PA.okt_kid ho hx
    intro w0 w A x st d h0 hd hT hb hA hq hlen
    rw [TR] at hT
    obtain ⟨sp, sc, kp, kc, e1, hr, hk1, hkr⟩ := hT
    rw [e1]
    clear e1 d
    have hsl := (PA.okt_self ho).2
    by_cases h2 : k = 4 ∨ k = 5
    · obtain ⟨y, z, rfl⟩ : ∃ x y, ks = [x, y] := PA.kids2 ho (by simp [T.kind, E.kidsOf, h2])
      obtain ⟨b, off, v0, rfl, ht0, hc0⟩ := kr_get _ 0 hkr 0 (by simp)
      obtain ⟨b', off', v1, e', ht1, hc1⟩ := kr_get _ 0 hkr 1 (by simp)
      cases e'
      obtain ⟨d0, rfl, _⟩ := ht0.nd
      obtain ⟨d1, rfl, _⟩ := ht1.nd
      simp only [Nat.zero_add, Nat.zero_mul, Nat.add_zero, Nat.one_mul, List.getElem_cons_zero, List.getElem_cons_succ] at hc0 hc1 ht0 ht1
      have hg1 := gd_tree (ho2 y (by simp))
      have hg2 := gd_tree (ho2 z (by simp))
      rw [PA.ct_mk] at hlen
      have hk1' : k ≠ 1 := by omega
      simp only [if_neg hk1', List.map_cons, List.map_nil, List.sum_cons, List.sum_nil] at hlen
      have l1 := hg1.len st
      have l2 := hg2.len (PA.add y st).1
      have q1 := hg1.fl st hq
      rw [← l1] at q1
      have q2 := hg2.fl (PA.add y st).1 q1
      rw [← l2] at q2
      have f1 := hg1.f st
      have g1 := hg1.l st
      have f2 := hg2.f (PA.add y st).1
      have g2 := hg2.l (PA.add y st).1
      have c1 : ∀ w', Below w0.heap.size w0 w' → AutoAt w' w0.heap.size A x st → Calls Tryz.prog 49 #[.pointer (some ⟨A, 0, none⟩), d0.v] w' fun e W => e = .returned (encE (PA.add y st).2) ∧ AutoAt W w0.heap.size A x (PA.add y st).1 ∧ PF w0.heap.size A w' W := fun w' hb' ha' => ih y (by simp) w0 w' A x st d0 h0 hd ht0 hb' ha' hq (by omega)
      have c2 : ∀ w', Below w0.heap.size w0 w' → AutoAt w' w0.heap.size A x (PA.add y st).1 → Calls Tryz.prog 49 #[.pointer (some ⟨A, 0, none⟩), d1.v] w' fun e W => e = .returned (encE (PA.add z (PA.add y st).1).2) ∧ AutoAt W w0.heap.size A x (PA.add z (PA.add y st).1).1 ∧ PF w0.heap.size A w' W := fun w' hb' ha' => ih z (by simp) w0 w' A x _ d1 h0 hd ht1 hb' ha' q1 (by omega)
      rw [plain2]
      rcases h2 with rfl | rfl
      · exact add_cat a _ sp _ sc _ kc hc0 hc1 (by simp) h0 hd hb hA (PA.up g1 (by omega)) (by rw [← l2] at f2; exact f2) q2 (by omega) ⟨PA.up f1 (by omega), PA.up g1 (by omega)⟩ ⟨PA.up f2 (by omega), PA.up g2 (by omega)⟩ c1 c2
      · exact add_alt a _ sp _ sc _ kc hc0 hc1 (by simp) h0 hd hb hA ⟨PA.up f1 (by omega), PA.up g1 (by omega)⟩ ⟨PA.up f2 (by omega), PA.up g2 (by omega)⟩ c1 c2
    · by_cases h1 : k = 6 ∨ k = 7 ∨ k = 8
      · obtain ⟨y, rfl⟩ : ∃ x, ks = [x] := PA.kids1 ho (by simp [T.kind, E.kidsOf, h2, h1])
        obtain ⟨b, off, v0, rfl, ht0, hc0⟩ := kr_get _ 0 hkr 0 (by simp)
        obtain ⟨d0, rfl, _⟩ := ht0.nd
        simp only [Nat.zero_mul, Nat.add_zero, List.getElem_cons_zero] at hc0 ht0
        have hg1 := gd_tree (ho2 y (by simp))
        rw [PA.ct_mk] at hlen
        have hk1' : k ≠ 1 := by omega
        simp only [if_neg hk1', List.map_cons, List.map_nil, List.sum_cons, List.sum_nil] at hlen
        have f1 := hg1.f st
        have g1 := hg1.l st
        have hel : (PA.add y st).2.f < 2 ^ 64 ∧ (PA.add y st).2.l < 2 ^ 64 := ⟨PA.up f1 (by omega), PA.up g1 (by omega)⟩
        rw [plain1]
        rcases h1 with rfl | rfl | rfl
        · exact add_star a _ sp _ sc _ kc hc0 (by simp) h0 hd hb hA hel fun w' hb' ha' => addRow_of (ho2 y (by simp)) (ih y (by simp)) w0 w' A x st d0 h0 hd ht0 hb' ha' hq (by omega)
        · exact add_plus a _ sp _ sc _ kc hc0 (by simp) h0 hd hb hA fun w' hb' ha' => addRow_of (ho2 y (by simp)) (ih y (by simp)) w0 w' A x st d0 h0 hd ht0 hb' ha' hq (by omega)
        · exact add_opt a _ sp _ sc _ kc hc0 (by simp) h0 hd hb hA hel fun w' hb' ha' => ih y (by simp) w0 w' A x st d0 h0 hd ht0 hb' ha' hq (by omega)
      · obtain rfl : ks = [] := PA.kids0 ho (by simp [T.kind, E.kidsOf, h2, h1])
        rw [plain0]
        by_cases hk : k = 1
        · subst hk
          rw [PA.ct_mk] at hlen
          simp only [if_true, List.map_nil, List.sum_nil] at hlen
          exact add_set a s hsl _ sp kp sc _ kc hr h0 hd hb hA (by omega)
        · have he : PA.step k s PA.nil PA.nil st = (st, PA.none) := by
            unfold PA.step
            rw [if_neg hk, if_neg (by omega), if_neg (by omega), if_neg (by omega), if_neg (by omega), if_neg (by omega)]
          rw [he]
          exact add_none k a ⟨hk, by omega, by omega, by omega, by omega, by omega⟩ _ sp kp _ sc _ kc h0 hd hb hA
/-- add. -/
theorem add_any {t : T} (h : PA.Okt t) : AddOK t := add_n _ t (Nat.lt_succ_self _) h
end Go.Proofs.YtemanednddhfaaaGreatDoor
