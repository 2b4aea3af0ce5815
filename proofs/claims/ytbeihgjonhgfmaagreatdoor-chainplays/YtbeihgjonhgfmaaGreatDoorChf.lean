/- Who is next by tags alone: the program's walk; next whole. -/
import Derived.Test.YtbeihgjonhgfmaaGreatDoorChe
namespace Go.Proofs.YtbeihgjonhgfmaaGreatDoor
open Go.RowKit Go.Shelf Go.Maps
attribute [local go_sem] Oper.semAt_some
namespace C
/-- Between the rounds. -/
structure TO (w : World) (a l : Nat) (r : Loop) (A : World) : Prop where
  nx_ : NX w a ⟨#[]⟩ false 0 A
  rec_ : A.heap[l + 1]? = some (.loop r)
  def_ : A.heap[l]? = some (.deferred (some []))
/-- Where the rounds were left. -/
structure TS (w : World) (a l : Nat) (s : ByteArray) (A : World) : Prop where
  nx_ : NX w a s true 0 A
  rec_ : ∃ rd : Loop, rd.state = .done ∧ rd.pending = some .ret ∧ A.heap[l + 1]? = some (.loop rd)
  def_ : A.heap[l]? = some (.deferred (some []))
section
variable {w : World} {a l : Nat} {r rb : Loop} {A : World} {s : ByteArray} {b : Bool} {c : Int}
theorem NX.putObj (h : NX w a s b c A) {k : Nat} (hk : w.heap.size + 1 + 1 + 1 < k) (o : Obj) : NX w a s b c (A.putObj k o) := by
  have hne : ∀ i, i ≠ k → (A.putObj k o).heap[i]? = A.heap[i]? := fun i hi => World.putObj_heap_other hi
  exact ⟨(hne _ (by omega)).trans h.bx, (hne _ (by omega)).trans h.r0, (hne _ (by omega)).trans h.r1, (hne _ (by omega)).trans h.r2, h.below.trans (below_put _ _ (by omega))⟩
theorem TO.grow (h : TO w a l r A) {B : World} (hb : Below A.heap.size A B) : TO w a l r B := by
  have hk : ∀ (i : Nat) (o : Obj), A.heap[i]? = some o → B.heap[i]? = some o := fun i o hi => (hb.block i (Array.getElem?_eq_some_iff.1 hi).1).trans hi
  exact ⟨h.nx_.later hb, hk _ _ h.rec_, hk _ _ h.def_⟩
theorem TO.busy (h : TO w a l r A) (hl : w.heap.size + 1 + 1 + 1 < l) : TO w a l rb (A.putObj (l + 1) (.loop rb)) :=
  ⟨h.nx_.putObj (by omega) _, World.putObj_heap_same (Array.getElem?_eq_some_iff.1 h.rec_).1, (World.putObj_heap_other (by omega)).trans h.def_⟩
theorem TO.stop (h : TO w a l rb A) (hl : w.heap.size + 1 + 1 + 1 < l) (s : ByteArray) : (st3 w A s true 0).heap[l + 1]? = some (.loop rb) ∧ ∀ rd : Loop, rd.state = .done → rd.pending = some .ret → TS w a l s ((st3 w A s true 0).putObj (l + 1) (.loop rd)) := by
  have m1 := (st3_ne (w := w) s true 0 (by omega) (by omega) (by omega)).trans h.rec_
  refine ⟨m1, fun rd e1 e2 => ⟨(h.nx_.put s true 0).putObj (by omega) _, ⟨rd, e1, e2, World.putObj_heap_same (Array.getElem?_eq_some_iff.1 m1).1⟩, ?_⟩⟩
  exact (World.putObj_heap_other (by omega)).trans ((st3_ne (w := w) s true 0 (by omega) (by omega) (by omega)).trans h.def_)
end
def TSt (L : Row) (x : Tx) (w : World) (a l i : Nat) (A : World) : Prop := ∃ u, (ups x)[i]? = some u ∧ TS w a l ⟨u.toArray⟩ A ∧ has L u = true ∧ ∀ u ∈ (ups x).take i, has L u = false
set_option maxRecDepth 100000 in
set_option maxHeartbeats 4000000 in
theorem next_in {w : World} {a : Nat} {mb : Option Nat} {L : Row} (h : FO w a mb L) (x : Tx) (hx : x.length ≤ 9223372036854775807) (hg : get L x = some []) (hA : AF w) :
    CallsIn Fence.wide 5 Tryz.prog 41 #[.pointer (some ⟨a, 0, none⟩), tx x] w fun e W' => AnsN L x e ∧ Below w.heap.size w W' := by
  have HA : Hid (next L x = match (ups x).find? (has L) with | some u => (u, true, 0) | none => ([], false, 0)) := hide (by unfold next; rw [hg]; rfl)
  have hN := nxW_nx w a
  have ho := of_any (h.later hN.below) x hx
  have hh : has L x = true := by rw [← get_has, hg]; rfl
  have hhas := fun W (hW : Below w.heap.size w W) (u : Tx) (hu : u.length ≤ 40) => has_any (h.later hW) u (by omega)
  have HAF := hide (fun W (hW : Below w.heap.size w W) => hA.later hW)
  have HUL := hide (ups_len x)
  have hmk := fun W => above_make x W
  rw [hg, hh, Option.getD_some] at ho
  have hbx := cell_one hN.bx
  unfold tx linkV at *
  rw [show (!(([] : Tx) == [])) = false from rfl] at ho
  unfold nxW at *
  clear h hg hh hA
  refine callsIn_of_wp_marks Tryz.func41 rfl trivial ?_ rfl
  simp only [Tryz.ntmps41, List.size_toArray, List.length_cons, List.length_nil, Nat.reduceAdd, Nat.reduceSub, Array.replicate_succ, Array.replicate_zero, List.push_toArray, List.append_toArray, List.nil_append, List.cons_append]
  gi_wp2_with (refine ⟨trivial, ?_⟩; gi_at_call 34; refine (callsIn_wide.2 ho).mono ?_; rintro e w1 ⟨rfl, b1⟩)
  have hN1 := (hN.later b1).later (al1 w1 (.cells #[.string ⟨#[]⟩, .bool false] 64))
  have k0 := heap_alloc_new w1 (.cells #[.string ⟨#[]⟩, .bool false] 64)
  generalize w1.alloc (.cells #[.string ⟨#[]⟩, .bool false] 64) = A0 at *
  have k1 : A0.cell? ⟨w1.heap.size, 1, none⟩ = some (.bool false) := by simp [World.cell?, k0]
  clear ho hN hbx b1 k0
  refine ⟨trivial, ?_⟩
  gi_wp2_with fail
  refine ⟨trivial, (callsIn_wide.2 (hmk A0)).mono ?_⟩
  rintro e X3 ⟨rfl, hX3⟩
  have a3 := al1 A0 (.cells #[.string ⟨x.toArray⟩] 9)
  have k3 := heap_alloc_new A0 (.cells #[.string ⟨x.toArray⟩] 9)
  have s3 := World.size_alloc A0 (.cells #[.string ⟨x.toArray⟩] 9)
  rw [← hX3] at a3 k3 s3
  have hN3 := hN1.later a3
  have hl3 := hN1.lt
  have HS3 := hide s3
  clear hX3 s3 k1 hmk hN1 a3
  gi_wp2
  refine enter3 (gf := 82) (lb := #[.pointer (some ⟨A0.heap.size, 0, none⟩)]) rfl (enters_of Tryz.func82 (by kernel_rfl) rfl) ?_
  intro r We hr hrec hdef hszE hbE
  have hl2 : w.heap.size + 1 + 1 + 1 < X3.heap.size := by have := HS3.out; omega
  have hNE := hN3.later hbE
  refine (above1_in 4 (by omega) x hx (X3.heap.size + 1) A0.heap.size
    (fun i A => TO w a X3.heap.size r A ∧ ∀ u ∈ (ups x).take i, has L u = false)
    (TSt L x w a X3.heap.size) We ((hbE.block _ (by have := HS3.out; omega)).trans k3) ?stable ?tabs ?round ?start).mono ?_
  case stable =>
    rintro i A B ⟨h1, h2⟩ hb
    exact ⟨h1.grow hb, h2⟩
  case tabs =>
    rintro i A ⟨h1, h2⟩
    exact HAF.out A h1.nx_.below
  case start => exact ⟨⟨hNE, hrec.out, hdef.out⟩, by simp⟩
  case round =>
    rintro i hi A ⟨hTO, hno⟩
    have hul := (HUL.out (ups x)[i] (List.getElem_mem hi)).1
    have HX : Hid ((ups x)[i]? = some (ups x)[i]) := hide (List.getElem?_eq_getElem hi)
    have HT : Hid ((ups x).take (i + 1) = (ups x).take i ++ [(ups x)[i]]) := hide (List.take_succ_eq_append_getElem hi)
    have HNO := hide hno
    clear hno
    generalize (ups x)[i] = u at *
    clear hrec hdef hszE hbE k3 hNE hN3 HS3 hl3
    generalize X3.heap.size = l at *
    have j5 := hTO.rec_
    refine yield3 hr j5 rfl ?_
    gi_wp2
    intro rb
    have hC1 := hTO.busy (rb := rb) hl2
    clear hTO j5 hr
    generalize A.putObj (l + 1) (.loop rb) = A1 at *
    have cL := cell_one hC1.nx_.bx
    have hk := hhas A1 hC1.nx_.below u hul
    clear hhas
    unfold tx at *
    gi_wp2_with fail
    refine ⟨trivial, ?_⟩
    refine (CallsIn.inRound (l + 1) (callsIn_wide.2 hk)).mono ?_
    rintro e A2 ⟨rfl, b2⟩
    have hC2 := hC1.grow b2
    clear hk cL hC1 b2
    cases hb : has L u with
    | true =>
      have HS := hide (hC2.stop hl2 ⟨u.toArray⟩)
      obtain ⟨q1, q2, q3, q4, q5, q6⟩ := hC2.nx_.cells
      have HB := hide hb
      clear hC2 hb
      gi_wp2
      exact ⟨HS.out.1, fun rd e1 e2 => .inr ⟨rfl, u, HX.out, HS.out.2 rd e1 e2, HB.out, HNO.out⟩⟩
    | false =>
      have HS : Hid (A2.heap[l + 1]? = some (.loop rb) ∧ TO w a l r (A2.putObj (l + 1) (.loop r))) := hide ⟨hC2.rec_, hC2.busy hl2⟩
      have HNX : Hid (∀ v ∈ (ups x).take (i + 1), has L v = false) := hide (fun v hv => by
        rw [HT.out] at hv
        rcases List.mem_append.1 hv with hv | hv
        · exact HNO.out v hv
        · rw [List.mem_singleton.1 hv]; exact hb)
      clear hC2 hb
      gi_wp2
      exact ⟨HS.out.1, .inl ⟨rfl, HS.out.2, HNX.out⟩⟩
  rintro e W' ⟨hv, hres⟩
  refine ⟨hv, ?_⟩
  rcases hres with ⟨hTO, hno⟩ | ⟨i, hi, u, hu, hTS, hin, hno⟩
  · have HF : Hid (next L x = ([], false, 0)) := hide (by
      rw [HA.out, List.find?_eq_none.2]
      intro v hv
      rw [hno v (by rw [List.take_length]; exact hv)]
      simp)
    refine .inl ⟨hTO.rec_, fun r' => ?_⟩
    have hC1 := hTO.busy (rb := r') hl2
    clear hTO hno hrec hdef hszE hbE k3 hNE hN3 hr hhas
    generalize W'.putObj (X3.heap.size + 1) (.loop r') = W9 at *
    obtain ⟨q1, q2, q3, q4, q5, q6⟩ := hC1.nx_.cells
    have q7 := (st3_ne (w := w) (A := W9) (i := X3.heap.size) ⟨#[]⟩ false 0 (by omega) (by omega) (by omega)).trans hC1.def_
    have HN9 := hide ((hC1.nx_.put ⟨#[]⟩ false 0).putObj hl2)
    unfold st3 at q7 HN9
    clear hC1
    gi_wp2
    refine ⟨by simp, .inl ⟨_, _, rfl, run_takeDeferred q7, ?_⟩⟩
    refine ⟨_, res41 _ _ w.heap.size ⟨#[]⟩ false 0 rfl rfl rfl (cell_one (HN9.out _).r0) (cell_one (HN9.out _).r1) (cell_one (HN9.out _).r2), by unfold AnsN; rw [HF.out]; rfl, (HN9.out _).below⟩
  · have HF : Hid (next L x = (u, true, 0)) := hide (by
      rw [HA.out]
      have : (ups x).find? (has L) = some u := by
        rw [List.find?_eq_some_iff_getElem]
        obtain ⟨hlt, he⟩ := List.getElem?_eq_some_iff.1 hu
        refine ⟨hin, i, hlt, he, fun j hj => ?_⟩
        rw [hno (ups x)[j] (List.mem_take_iff_getElem.2 ⟨j, by omega, rfl⟩)]
        rfl
      rw [this])
    obtain ⟨rd, e1, e2, j2⟩ := hTS.rec_
    refine .inr ⟨rd, e1, e2, j2, fun r' => ?_⟩
    have k4 := (World.putObj_heap_other (w := W') (o := .loop r') (show X3.heap.size ≠ X3.heap.size + 1 by omega)).trans hTS.def_
    have HN9 := hide ((hTS.nx_.putObj (k := X3.heap.size + 1) (by omega) (.loop r')).putObj hl2)
    clear j2 hTS hno hrec hdef hszE hbE k3 hNE hN3 hr hhas
    generalize W'.putObj (X3.heap.size + 1) (.loop r') = W9 at *
    gi_wp2
    refine ⟨by simp, .inl ⟨_, _, rfl, run_takeDeferred k4, ?_⟩⟩
    refine ⟨_, res41 _ _ w.heap.size ⟨u.toArray⟩ true 0 rfl rfl rfl (cell_one (HN9.out _).r0) (cell_one (HN9.out _).r1) (cell_one (HN9.out _).r2), by unfold AnsN; rw [HF.out]; rfl, (HN9.out _).below⟩
theorem next_any {w : World} {a : Nat} {mb : Option Nat} {L : Row} (h : FO w a mb L) (x : Tx) (hx : x.length ≤ 9223372036854775807) (hA : AF w) :
    Calls Tryz.prog 41 #[.pointer (some ⟨a, 0, none⟩), tx x] w fun e W' => AnsN L x e ∧ Below w.heap.size w W' := by
  cases hg : get L x with
  | none => exact next_none h x hx hg
  | some p =>
    by_cases hp : p = []
    · subst hp; exact callsIn_wide.1 (next_in h x hx hg hA)
    · exact next_named h x p hx hg hp
end C
end Go.Proofs.YtbeihgjonhgfmaaGreatDoor
