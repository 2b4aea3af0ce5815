/- known of law 13. -/
import Derived.Test.YtemanednddhfaaaGreatDoorPlt
import Derived.Test.YtemanednddhfaaaGreatDoorPar
namespace Go.Proofs.YtemanednddhfaaaGreatDoor
open Go.RowKit Go.Shelf
open E (T isS)
attribute [local go_sem] Oper.semAt_some
namespace PA
/-- A node that needs no more than a look. -/
def nodeC (t : T) : Bool := decide ((t.kids.length : Int) = E.kidsOf t.kind) && ((decide (t.kind = 1) && (decide (t.name = []) && (match t.set with | [r] => decide (0 ≤ r.1) && (decide (r.1 ≤ r.2) && decide (r.2 ≤ 1114111)) | _ => false))) || (decide (3 ≤ t.kind) && (decide (t.kind ≤ 8) && (decide (t.set = []) && decide (t.name = [])))))
def treeC (t : T) : Bool := decide ((E.pre t t).length ≤ 400) && (E.pre t t).all fun p => nodeC p.1
theorem nodeC_ok {t : T} (h : nodeC t = true) : E.NodeOk t ∧ E.NodeB t ∧ t.kind ≠ 2 := by
  unfold nodeC at h
  simp only [Bool.and_eq_true, Bool.or_eq_true, decide_eq_true_eq] at h
  obtain ⟨h1, ⟨h2, h3, h4⟩ | ⟨h2, h3, h4, h5⟩⟩ := h
  · have hk0 : t.kids.length = 0 := by rw [h2, show E.kidsOf 1 = 0 from by decide] at h1; omega
    split at h4
    · rename_i r hr
      simp only [Bool.and_eq_true, decide_eq_true_eq] at h4
      obtain ⟨a, b, c⟩ := h4
      refine ⟨⟨h1, .inl ⟨h2, h3, by rw [hr]; simp, by rw [hr]; exact U.S.canon_one ((U.S.good_iff _).2 ⟨a, b, c⟩)⟩⟩, ⟨?_, by rw [h3]; decide, by rw [hr]; simp, by omega⟩, by omega⟩
      intro q hq
      rw [hr] at hq
      obtain rfl := List.mem_singleton.1 hq
      omega
    · cases h4
  · have hk2 : t.kids.length ≤ 2 := by
      unfold E.kidsOf at h1
      split at h1
      · omega
      · split at h1 <;> omega
    exact ⟨⟨h1, .inr (.inr ⟨h2, h3, h4, h5⟩)⟩, ⟨by rw [h4]; simp, by rw [h5]; decide, by rw [h4]; decide, by omega⟩, by omega⟩
theorem names_none {t : T} (h : ∀ p ∈ E.pre t t, p.1.kind ≠ 2) : E.nmL t = [] := by
  have : E.vnk (E.pre t t) = [] := by
    unfold E.vnk
    rw [List.map_eq_nil_iff, List.filter_eq_nil_iff]
    intro p hp
    simpa using h p hp
  unfold E.nmL
  rw [this]
  simp
  rfl
theorem treeC_ok {t : T} (h : treeC t = true) : Acc t ∧ (∀ p ∈ E.pre t t, E.NodeB p.1) ∧ (E.pre t t).length ≤ 1000000 := by
  unfold treeC at h
  simp only [Bool.and_eq_true, decide_eq_true_eq, List.all_eq_true] at h
  exact ⟨⟨⟨h.1, fun p hp => (nodeC_ok (h.2 p hp)).1⟩, names_none fun p hp => (nodeC_ok (h.2 p hp)).2.2⟩, fun p hp => (nodeC_ok (h.2 p hp)).2.1, by omega⟩
def tAB : T := .mk 4 0 [] [] [.mk 1 0 [(97, 97)] [] [], .mk 1 3 [(98, 98)] [] []]
def t0 : T := .mk 0 0 [] [] []
theorem not_acc0 : ¬ Acc t0 := fun h => by
  have := (h.1.2 (t0, t0) (by rw [pre_self]; exact List.mem_cons_self)).2
  rcases this with ⟨h, _⟩ | ⟨h, _⟩ | ⟨h, _⟩
  · cases h
  · cases h
  · revert h; decide
theorem parse13 : E.parse [39, 97, 32, 39, 98] = .ok tAB := by rfl
theorem tab_ok : treeC tAB = true := by rfl
theorem auto13 : auto tAB = ⟨[([(97, 97)], 2), ([(98, 98)], 0)], ⟨1, 2, false⟩⟩ := by rfl
theorem all13 : allB (auto tAB) [97, 98] = true := by kernel_rfl
theorem scan13 : (match X.scan 0 [39, 97, 32, 39, 98] with | .ok l => l.all fun x => !(decide (x.1.kind = 5)) && (!(isS x [91]) && !(isS x [46])) | .error _ => true) = true := by kernel_rfl
end PA
/-- That no sign of a text opens a set, is a property or a point. -/
def lightC (s : List UInt8) : Bool := match X.scan 0 s with | .ok l => l.all fun x => !(decide (x.1.kind = 5)) && (!(isS x [91]) && !(isS x [46])) | .error _ => true
theorem light_of {s : List UInt8} (h : lightC s = true) : ∀ l, X.scan 0 s = .ok l → ∀ x ∈ l, x.1.kind ≠ 5 ∧ isS x [91] = false ∧ isS x [46] = false := by
  intro l hl x hx
  unfold lightC at h
  rw [hl] at h
  have := List.all_eq_true.1 h x hx
  simpa using this
theorem AnsP.ok {t : T} {w w' : World} {e : Ending} (h : AnsP (.ok t) w e w') : Below w.heap.size w w' ∧ ∃ d : ND, e = .returned (.tuple #[d.v, .int .i64 0, .int .i64 0]) ∧ TR w' (fun _ => True) t d.v := by
  obtain ⟨hb, ⟨t', v, h1, h2, h3⟩ | ⟨c, k, h1, _⟩⟩ := h
  · cases h1
    have h4 := TR.mono (ok' := fun _ => True) (fun _ _ _ => trivial) t h3
    obtain ⟨d, rfl, _⟩ := h4.nd
    exact ⟨hb, d, h2, h4⟩
  · cases h1
theorem AnsW.yes {t : T} {w W : World} {e : Ending} (h : AnsW t w e W) (ha : PA.Acc t) (hc : PA.ct t ≤ 60) : Below w.heap.size w W ∧ ∃ A, e = .returned (.tuple #[.pointer (some ⟨A, 0, none⟩), .int .i64 0]) ∧ AutoAt W w.heap.size A (PA.auto t).w (PA.auto t).pl := by
  obtain ⟨hb, ⟨h1, _⟩ | ⟨_, h1, _⟩ | ⟨_, _, h1⟩⟩ := h
  · exact absurd ha h1
  · omega
  · exact ⟨hb, h1⟩
theorem AnsW.no {t : T} {w W : World} {e : Ending} (h : AnsW t w e W) (ha : ¬ PA.Acc t) : Below w.heap.size w W ∧ e = .returned (.tuple #[.pointer none, .int .i64 70]) := by
  obtain ⟨hb, ⟨_, h1⟩ | ⟨h1, _⟩ | ⟨h1, _⟩⟩ := h
  · exact ⟨hb, h1⟩
  · exact absurd h1 ha
  · exact absurd h1 ha
theorem rdc_new (w : World) (xs : List Int) : RdC32 (w.alloc (.cells ⟨xs.map (Value.int .i32)⟩ 21)) (some ⟨w.heap.size, 0, none⟩) xs := fun i hi => ⟨_, _, rfl, by
  have := heap_alloc_new w (.cells ⟨xs.map (Value.int .i32)⟩ 21)
  simp only [World.cell?, this, Nat.zero_add]
  simp [hi]⟩
def dz : ND := ⟨0, 0, none, 0, 0, ⟨#[]⟩, none, 0, 0⟩
theorem tr_zero (w : World) : TR w (fun _ => True) PA.t0 dz.v := by
  unfold PA.t0
  rw [TR]
  exact ⟨none, 0, none, 0, rfl, U.rdr_nil _ _, Nat.le_refl _, by rw [KR]; trivial⟩
theorem pre_zero : E.pre PA.t0 PA.t0 = [(PA.t0, PA.t0)] := by rw [pre_self]; rfl
set_option maxRecDepth 100000 in
set_option maxHeartbeats 4000000 in
theorem known13_any (w : World) (ht : Tabs w) (hd : Deb w) : Calls Tryz.prog 10 #[] w fun e w' => e = .returned (.bool true) ∧ Below w.heap.size w w' := by
  have h1 := parse_light ⟨#[39, 97, 32, 39, 98]⟩ (by decide) (light_of (by kernel_rfl)) w ht
  rw [show E.parse (bts ⟨#[39, 97, 32, 39, 98]⟩) = _ from PA.parse13] at h1
  obtain ⟨hac, hnb, hps⟩ := PA.treeC_ok PA.tab_ok
  have hct : PA.ct PA.tAB ≤ 60 := by decide
  go_enter Tryz.func10, Tryz.ntmps10
  go_wp2_with fail
  refine h1.mono ?_
  intro e w1 ha
  obtain ⟨hb1, d, rfl, htr⟩ := ha.ok
  have a2 := al1 w1 (.cells #[.int .i64 d.k, .int .i64 d.a, .slice d.sp d.sl d.sc, .string d.n, .slice d.kp d.kl d.kc] 26)
  have n2 := heap_alloc_new w1 (.cells #[.int .i64 d.k, .int .i64 d.a, .slice d.sp d.sl d.sc, .string d.n, .slice d.kp d.kl d.kc] 26)
  have s2 : (w1.alloc (.cells #[.int .i64 d.k, .int .i64 d.a, .slice d.sp d.sl d.sc, .string d.n, .slice d.kp d.kl d.kc] 26)).heap.size = w1.heap.size + 1 := by simp
  have B2 := nx hb1 a2
  have hN := new_any PA.tAB d (w1.alloc (.cells #[.int .i64 d.k, .int .i64 d.a, .slice d.sp d.sl d.sc, .string d.n, .slice d.kp d.kl d.kc] 26)) (ht.later B2) (hd.later B2) (TR.later (fun k hk => a2.block k hk) _ htr) hps hnb
  clear h1 ha htr a2 n2
  unfold ND.v at hN ⊢
  go_wp2_with fail
  refine hN.mono ?_
  intro e W3 hw
  obtain ⟨hb3, A, rfl, hA⟩ := hw.yes hac hct
  have B3 := nx B2 hb3
  have hN2 := new_any PA.t0 dz W3 (ht.later B3) (hd.later B3) (tr_zero W3) (by rw [pre_zero]; decide) (by rw [pre_zero]; intro p hp; obtain rfl := List.mem_singleton.1 hp; simp [E.NodeB, PA.t0, T.set, T.name, T.kids])
  clear hN hw
  rw [show dz.v = .agg #[.int .i64 0, .int .i64 0, .slice none 0 0, .string ⟨#[]⟩, .slice none 0 0] from rfl] at hN2
  go_wp2_with fail
  refine hN2.mono ?_
  intro e W4 hw
  obtain ⟨hb4, rfl⟩ := hw.no PA.not_acc0
  have B4 := nx B3 hb4
  have hA4 := hA.later hb4
  rw [PA.auto13] at hA4
  have hg : PA.Good ⟨[([(97, 97)], 2), ([(98, 98)], 0)], ⟨1, 2, false⟩⟩ := by have := PA.good_auto hac hct; rwa [PA.auto13] at this
  have hall : PA.allB ⟨[([(97, 97)], 2), ([(98, 98)], 0)], ⟨1, 2, false⟩⟩ [97, 98] = true := by have := PA.all13; rwa [PA.auto13] at this
  have c1 : Calls Tryz.prog 13 #[.pointer (some ⟨A, 0, none⟩)] W4 fun e W => e = .returned (.int .i64 2) ∧ W = W4 := AutoAt.len (a := ⟨[([(97, 97)], 2), ([(98, 98)], 0)], ⟨1, 2, false⟩⟩) hA4
  have c2 : Calls Tryz.prog 15 #[.pointer (some ⟨A, 0, none⟩)] W4 fun e W => e = .returned (.int .u64 1) ∧ W = W4 := AutoAt.first (a := ⟨[([(97, 97)], 2), ([(98, 98)], 0)], ⟨1, 2, false⟩⟩) hA4
  have c3 : Calls Tryz.prog 16 #[.pointer (some ⟨A, 0, none⟩)] W4 fun e W => e = .returned (.int .u64 2) ∧ W = W4 := AutoAt.last (a := ⟨[([(97, 97)], 2), ([(98, 98)], 0)], ⟨1, 2, false⟩⟩) hA4
  have c4 : Calls Tryz.prog 17 #[.pointer (some ⟨A, 0, none⟩), .int .i64 0] W4 fun e W => e = .returned (.int .u64 2) ∧ W = W4 := AutoAt.follow (a := ⟨[([(97, 97)], 2), ([(98, 98)], 0)], ⟨1, 2, false⟩⟩) hA4 0
  have c5 : Calls Tryz.prog 14 #[.pointer (some ⟨A, 0, none⟩)] W4 fun e W => e = .returned (.bool false) ∧ W = W4 := AutoAt.null (a := ⟨[([(97, 97)], 2), ([(98, 98)], 0)], ⟨1, 2, false⟩⟩) hA4
  have a5 := al1 W4 (.cells #[.int .i32 97, .int .i32 98] 21)
  have c6 : Calls Tryz.prog 27 #[.pointer (some ⟨A, 0, none⟩), .slice (some ⟨W4.heap.size, 0, none⟩) 2 2] (W4.alloc (.cells #[.int .i32 97, .int .i32 98] 21)) fun e W => e = .returned (.bool true) ∧ Below (W4.alloc (.cells #[.int .i32 97, .int .i32 98] 21)).heap.size (W4.alloc (.cells #[.int .i32 97, .int .i32 98] 21)) W := by
    have := AutoAt.all (a := ⟨[([(97, 97)], 2), ([(98, 98)], 0)], ⟨1, 2, false⟩⟩) (hA4.later a5) hg (hd.later (nx B4 a5)) (some ⟨W4.heap.size, 0, none⟩) 2 [97, 98] (rdc_new W4 [97, 98]) (by decide)
    rw [hall] at this
    exact this
  have B5 := nx B4 a5
  clear hN2 hw hA4 hg hall hA a5
  go_wp2_with (first | (refine c1.mono ?_; rintro e w' ⟨rfl, rfl⟩) | (refine c2.mono ?_; rintro e w' ⟨rfl, rfl⟩) | (refine c3.mono ?_; rintro e w' ⟨rfl, rfl⟩) | (refine c4.mono ?_; rintro e w' ⟨rfl, rfl⟩) | (refine c5.mono ?_; rintro e w' ⟨rfl, rfl⟩))
  refine c6.mono ?_
  rintro e W6 ⟨rfl, hb6⟩
  have B6 := nx B5 hb6
  clear c1 c2 c3 c4 c5 c6 hb6 B5 hb4 B4
  go_wp2
  go_ret
  exact ⟨rfl, B6⟩
end Go.Proofs.YtemanednddhfaaaGreatDoor
