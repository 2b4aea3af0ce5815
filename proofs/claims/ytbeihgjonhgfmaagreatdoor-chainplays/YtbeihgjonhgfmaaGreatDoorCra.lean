/- The reference's forest in memory: where a tag is; who is next. -/
import Derived.Test.YtbeihgjonhgfmaaGreatDoorChn
import Derived.Test.YtbeihgjonhgfmaaGreatDoorChj
import Derived.Test.YtbeihgjonhgfmaaGreatDoorTgw
namespace Go.Proofs.YtbeihgjonhgfmaaGreatDoor
open Go.RowKit Go.Shelf Go.Maps
attribute [local go_sem] Oper.semAt_some
namespace C
def ps (L : Row) : List Tx := L.map (·.2)
theorem ks_len (L : Row) : (ks L).length = L.length := by unfold ks; simp
theorem ps_len (L : Row) : (ps L).length = L.length := by unfold ps; simp
/-- The place of a tag. -/
def pl (L : Row) (x : Tx) : Option Nat := (ks L).findIdx? (· == x)
def plI (L : Row) (x : Tx) : Int := match pl L x with | some i => (i : Int) | none => -1
theorem pl_none {L : Row} {x : Tx} : pl L x = none ↔ has L x = false := by
  unfold pl
  rw [List.findIdx?_eq_none_iff]
  constructor
  · intro h
    cases hh : has L x with
    | false => rfl
    | true => have := h x (has_ks.1 hh); simp at this
  · intro h y hy
    cases hyx : (y == x) with
    | false => rfl
    | true =>
      have e : y = x := by simpa using hyx
      have := has_ks.2 (e ▸ hy)
      rw [h] at this; cases this
theorem pl_some {L : Row} (hs : Srt L) {x : Tx} {i : Nat} (h : pl L x = some i) : ∃ h : i < L.length, L[i].1 = x ∧ get L x = some L[i].2 := by
  unfold pl at h
  rw [List.findIdx?_eq_some_iff_getElem] at h
  obtain ⟨h1, h2, _⟩ := h
  have hi : i < L.length := by rw [ks_len] at h1; exact h1
  have e : L[i].1 = x := by
    have : (ks L)[i] = x := by simpa using h2
    rw [← this]; simp [ks]
  refine ⟨hi, e, ?_⟩
  rw [get_mem hs, ← e]
  exact List.getElem_mem hi
/-- The reference's forest: its two rows. -/
structure RO (n0 : Nat) (w : World) (a : Nat) (vT vN : Value) (L : Row) : Prop where
  box : w.heap[a]? = some (.cells #[vT, vN] 40)
  tags : OwnN w n0 vT (ks L)
  named : OwnN w n0 vN (ps L)
  apart : ∀ k, vT.ownBlock = some k → vN.ownBlock ≠ some k
  base : n0 ≤ a
  srt : Srt L
  small : ∀ y ∈ L, y.1.length ≤ 40 ∧ y.2.length ≤ 40
section
variable {n0 : Nat} {w : World} {a : Nat} {vT vN : Value} {L : Row}
theorem RO.lt (h : RO n0 w a vT vN L) : a < w.heap.size := (Array.getElem?_eq_some_iff.1 h.box).1
theorem RO.later {W : World} (h : RO n0 w a vT vN L) (hb : Below w.heap.size w W) : RO n0 W a vT vN L := ⟨(hb.block a h.lt).trans h.box, h.tags.later hb, h.named.later hb, h.apart, h.base, h.srt, h.small⟩
theorem RO.c0 (h : RO n0 w a vT vN L) : w.cell? ⟨a, 0, none⟩ = some vT := by simp [World.cell?, h.box]
theorem RO.c1 (h : RO n0 w a vT vN L) : w.cell? ⟨a, 1, none⟩ = some vN := by simp [World.cell?, h.box]
end
set_option maxRecDepth 100000 in
set_option maxHeartbeats 2000000 in
theorem place_any {n0 : Nat} {w : World} {a : Nat} {vT vN : Value} {L : Row} (h : RO n0 w a vT vN L) (hl : L.length ≤ 1000) (x : Tx) :
    Calls Tryz.prog 35 #[.pointer (some ⟨a, 0, none⟩), tx x] w fun e W' => e = .returned (.int .i64 (plI L x)) ∧ Below w.heap.size w W' := by
  have hes := elemSize30
  have c0 := h.c0
  have hkl := ks_len L
  obtain ⟨ao, cap, rfl, _, hrd⟩ := h.tags.rd
  have HRD := hide hrd
  have HP : Hid (plI L x = match (ks L).findIdx? (· == x) with | some i => (i : Int) | none => -1) := hide rfl
  generalize plI L x = pv at *
  have hK : (ks L).length ≤ 1000 := by omega
  clear h hrd hkl
  generalize ks L = K at *
  unfold tx at *
  go_enter Tryz.func35, Tryz.ntmps35
  go_wp2
  go_loopw [5] (fun u wr => ∃ i : Nat, u = .int .i64 (i : Int) ∧ i ≤ K.length ∧ Hid (∀ j (h : j < K.length), j < i → ¬ K[j] = x) ∧ wr = w) (fun u _ => K.length - (intOf u).toNat)
  case atStart => exact ⟨0, rfl, by omega, hide (fun j h h0 => by omega), by first | rfl | trivial⟩
  case round =>
    obtain ⟨i, rfl, hi, HN, rfl⟩ := hrel
    by_cases hlt : i < K.length
    · obtain ⟨b, off, rfl, hbb, hc⟩ := HRD.out i hlt
      by_cases hx : K[i] = x
      · have HF : Hid (pv = (i : Int)) := hide (by
          rw [HP.out]
          have : K.findIdx? (· == x) = some i := by
            rw [List.findIdx?_eq_some_iff_getElem]
            exact ⟨hlt, by simpa using hx, fun j hj => by simpa using HN.out j (by omega) hj⟩
          rw [this])
        rw [hx] at hc
        have he : (x == x) = true := by simp
        clear HN HP hx
        unfold tx at *
        go_wp2
        go_ret
        exact ⟨by rw [HF.out]; rfl, Below.refl _ _⟩
      · have HN2 : Hid (∀ j (h : j < K.length), j < i + 1 → ¬ K[j] = x) := hide (fun j h hj => by
          rcases Nat.lt_or_ge j i with h1 | h1
          · exact HN.out j h h1
          · obtain rfl : j = i := by omega
            exact hx)
        have he : (K[i] == x) = false := by simpa using hx
        generalize K[i] = y at *
        clear hx HN
        unfold tx at *
        go_wp2
        go_roundw
        case rel => exact ⟨i + 1, by go_num, by omega, HN2, by first | rfl | trivial⟩
        case measure => simp [intOf]; omega
    · have HF : Hid (pv = -1) := hide (by
        rw [HP.out, List.findIdx?_eq_none_iff.2]
        intro y hy
        obtain ⟨j, hj, rfl⟩ := List.mem_iff_getElem.1 hy
        simpa using HN.out j hj (by omega))
      clear HN HP
      go_wp2
      go_ret
      exact ⟨by rw [HF.out]; rfl, Below.refl _ _⟩
theorem ps_get {L : Row} {i : Nat} (h : i < (ps L).length) : (ps L)[i] = (L[i]'(by rw [ps_len] at h; exact h)).2 := by simp [ps]
theorem plI_lt {L : Row} {x : Tx} (h : has L x = false) : plI L x = -1 := by unfold plI; rw [pl_none.2 h]
theorem plI_ge {L : Row} {x : Tx} (h : has L x = true) : ∃ i : Nat, pl L x = some i ∧ plI L x = (i : Int) := by
  cases hp : pl L x with
  | none => rw [pl_none.1 hp] at h; cases h
  | some i => exact ⟨i, rfl, by unfold plI; rw [hp]⟩
set_option maxRecDepth 100000 in
set_option maxHeartbeats 2000000 in
theorem refNext_any {n0 : Nat} {w : World} {a : Nat} {vT vN : Value} {L : Row} (h : RO n0 w a vT vN L) (hl : L.length ≤ 1000) (x : Tx) (hx : x.length ≤ 60) :
    Calls Tryz.prog 38 #[.pointer (some ⟨a, 0, none⟩), tx x] w fun e W' => AnsN L x e ∧ Below w.heap.size w W' := by
  have hes := elemSize30
  have hpx := place_any h hl x
  unfold AnsN
  cases hg : get L x with
  | none =>
    have hh := get_none.1 hg
    have HN : Hid (next L x = ([], false, 240)) := hide (by unfold next; rw [hg])
    rw [plI_lt hh] at hpx
    clear h hg hh
    unfold tx at *
    go_enter Tryz.func38, Tryz.ntmps38
    go_wp2_with fail
    refine hpx.mono ?_
    rintro e w1 ⟨rfl, b1⟩
    clear hpx
    go_wp2
    exact bodyPost_ret (v := .tuple #[.string ⟨#[]⟩, .bool false, .int .i64 240]) (by simp [results, Tryz.results38, go_sem]) rfl ⟨by rw [HN.out]; rfl, b1⟩
  | some p =>
    have hh : has L x = true := by rw [← get_has, hg]; rfl
    obtain ⟨i, hi, hpi⟩ := plI_ge hh
    obtain ⟨hil, _, hgi⟩ := pl_some h.srt hi
    rw [hpi] at hpx
    have hpp : L[i].2 = p := by rw [hg] at hgi; injection hgi with hgi; exact hgi.symm
    have hpl : p.length ≤ 40 := by rw [← hpp]; exact (h.small _ (List.getElem_mem hil)).2
    have hcell : ∀ W, Below w.heap.size w W → ∃ ao cap, vN = .slice ao (ps L).length cap ∧ RdT W ao (ps L) := fun W hW => by
      obtain ⟨ao, cap, h1, _, h2⟩ := (h.named.later hW).rd
      exact ⟨ao, cap, h1, h2⟩
    have hc1 := fun W (hW : Below w.heap.size w W) => (h.later hW).c1
    have hpr := fun W (hW : Below w.heap.size w W) => place_any (h.later hW) hl p
    obtain ⟨ao, cap, hvn, _, hrd⟩ := h.named.rd
    have hil2 : i < (ps L).length := by rw [ps_len]; exact hil
    obtain ⟨nb, nof, rfl, hrb⟩ : ∃ b off, ao = some ⟨b, off, none⟩ ∧ (b < w.heap.size ∧ w.cell? ⟨b, off + i, none⟩ = some (tx p)) := by
      obtain ⟨b, off, e, h1, h2⟩ := hrd i hil2
      rw [ps_get hil2, hpp] at h2
      exact ⟨b, off, e, h1, h2⟩
    subst hvn
    rw [ps_len] at *
    have hil3 : i < L.length := hil
    have hL := hl
    by_cases hp0 : p = []
    · subst hp0
      have HN : Hid (next L x = match (ups x).find? (has L) with | some u => (u, true, 0) | none => ([], false, 0)) := hide (by unfold next; rw [hg]; rfl)
      have hpa := fun W (t : Tx) (ht : t.length ≤ 60) => refParent_any t (by omega) W
      have hpl2 := fun W (hW : Below w.heap.size w W) (t : Tx) => place_any (h.later hW) hl t
      have HPZ : Hid (∀ t, (has L t = false → plI L t = -1) ∧ (has L t = true → ∃ i : Nat, plI L t = (i : Int))) := hide (fun t => ⟨plI_lt, fun hh => by obtain ⟨i, _, e⟩ := plI_ge hh; exact ⟨i, e⟩⟩)
      clear h hg hh hi hpi hgi hpp hcell hpr hrd hil2
      unfold tx at *
      go_enter Tryz.func38, Tryz.ntmps38
      go_wp2_with fail
      refine hpx.mono ?_
      rintro e w1 ⟨rfl, b1⟩
      have k1 := hc1 w1 b1
      have k2 := cell_later b1 hrb.2
      clear hpx
      go_wp2_with fail
      refine (hpa w1 x hx).mono ?_
      rintro e w2 ⟨rfl, b2⟩
      have b2' := nx b1 b2
      clear b1 b2 k1 k2 hc1 hrb
      go_wp2
      go_loopg [8] (rank (G.parent x)) (fun k v wr => ∃ (j : Nat) (t : Tx), v = tx (G.parent t) ∧ Hid (ups t = (ups x).drop j ∧ ∀ u ∈ (ups x).take j, has L u = false) ∧ t.length ≤ 60 ∧ Below w.heap.size w wr ∧ Hid (k = rank (G.parent t)))
      case atStart => exact ⟨0, x, rfl, hide ⟨rfl, by simp⟩, hx, b2', hide rfl⟩
      case round =>
        obtain ⟨j, t, rfl, HU, ht, hb, HK⟩ := hrel
        obtain ⟨hu1, hu2⟩ := HU.out
        by_cases hq : G.parent t = []
        · have HF : Hid (next L x = ([], false, 0)) := hide (by
            rw [ups_nil hq] at hu1
            have hlen := congrArg List.length hu1
            rw [List.length_drop, List.length_nil] at hlen
            rw [HN.out, List.find?_eq_none.2]
            intro v hv
            rw [hu2 v (by rw [List.take_of_length_le (by omega)]; exact hv)]
            simp)
          rw [hq]
          clear HU hu1 hu2 HK HPZ hpl2 hpa
          unfold tx at *
          go_wp2
          exact bodyPost_ret (v := .tuple #[.string ⟨#[]⟩, .bool false, .int .i64 0]) (by simp [results, Tryz.results38, go_sem]) rfl ⟨by rw [HF.out]; rfl, hb⟩
        · rw [ups_cons hq] at hu1
          have hjl : j < (ups x).length := by
            have := congrArg List.length hu1
            rw [List.length_drop, List.length_cons] at this
            omega
          have hu3 := hu1
          rw [List.drop_eq_getElem_cons hjl] at hu3
          injection hu3 with e1 e2
          have hpt := parent_len t
          have hqb : (G.parent t == []) = false := by simpa using hq
          have HRK : Hid (rank (G.parent (G.parent t)) < rank (G.parent t)) := hide (by
            by_cases hq2 : G.parent (G.parent t) = []
            · rw [hq2]
              have : rank ([] : Tx) = 0 := rfl
              rw [this]
              unfold rank
              rw [if_neg hq]
              split <;> omega
            · exact rank_parent hq2)
          have HNX : Hid (has L (G.parent t) = false → ups (G.parent t) = (ups x).drop (j + 1) ∧ ∀ u ∈ (ups x).take (j + 1), has L u = false) := hide (fun hf => ⟨e2, fun v hv => by
            rw [List.take_succ_eq_append_getElem hjl] at hv
            rcases List.mem_append.1 hv with hv | hv
            · exact hu2 v hv
            · rw [List.mem_singleton.1 hv, ← e1]; exact hf⟩)
          have HHT : Hid (has L (G.parent t) = true → next L x = (G.parent t, true, 0)) := hide (fun hf => by
            rw [HN.out]
            have : (ups x).find? (has L) = some (G.parent t) := by
              rw [List.find?_eq_some_iff_getElem]
              refine ⟨hf, j, hjl, e1.symm, fun jj hjj => ?_⟩
              rw [hu2 (ups x)[jj] (List.mem_take_iff_getElem.2 ⟨jj, by omega, rfl⟩)]
              rfl
            rw [this])
          have hpz := HPZ.out (G.parent t)
          have hplt := hpl2 wr hb (G.parent t)
          have hpar := fun W => hpa W (G.parent t) (by omega)
          have HK2 := HK.out
          clear HU hu1 hu2 e1 e2 hq HK
          obtain ⟨u, hu⟩ : ∃ u, u = G.parent t := ⟨_, rfl⟩
          rw [← hu] at hpt hqb HRK HNX HHT hpz hplt hpar HK2 ⊢
          have HK3 := hide HK2
          clear hu HK2
          unfold tx at *
          cases hhu : has L u with
          | false =>
            rw [hpz.1 hhu] at hplt
            have HN3 := hide (HNX.out hhu)
            clear hpz hhu HHT HNX
            go_wp2_with fail
            refine hplt.mono ?_
            rintro e w3 ⟨rfl, b3⟩
            clear hplt
            go_wp2_with fail
            refine (hpar w3).mono ?_
            rintro e w4 ⟨rfl, b4⟩
            clear hpar
            go_wp2
            go_roundg (rank (G.parent u))
            case measure => have := HK3.out; have := HRK.out; omega
            case rel => exact ⟨j + 1, u, rfl, HN3, by omega, nx hb (nx b3 b4), hide rfl⟩
          | true =>
            obtain ⟨i2, hi2⟩ := hpz.2 hhu
            rw [hi2] at hplt
            have HF := hide (HHT.out hhu)
            clear hpz hhu HHT HNX hi2
            go_wp2_with fail
            refine hplt.mono ?_
            rintro e w3 ⟨rfl, b3⟩
            clear hplt
            go_wp2
            exact bodyPost_ret (v := .tuple #[.string ⟨u.toArray⟩, .bool true, .int .i64 0]) (by simp [results, Tryz.results38, go_sem]) rfl ⟨by rw [HF.out]; rfl, nx hb b3⟩
    · have HN : Hid (next L x = if has L p then (p, true, 0) else ([], false, 110)) := hide (by unfold next; rw [hg]; simp only; rw [if_neg hp0])
      have hpb : (p == []) = false := by simpa using hp0
      cases hhp : has L p with
      | false =>
        rw [plI_lt hhp] at hpr
        rw [hhp] at HN
        clear h hg hh hi hpi hgi hpp hcell hrd hil2 hp0 hhp
        unfold tx at *
        go_enter Tryz.func38, Tryz.ntmps38
        go_wp2_with fail
        refine hpx.mono ?_
        rintro e w1 ⟨rfl, b1⟩
        have k1 := hc1 w1 b1
        have k2 := cell_later b1 hrb.2
        clear hpx
        go_wp2_with fail
        refine (hpr w1 b1).mono ?_
        rintro e w2 ⟨rfl, b2⟩
        clear hpr
        go_wp2
        exact bodyPost_ret (v := .tuple #[.string ⟨#[]⟩, .bool false, .int .i64 110]) (by simp [results, Tryz.results38, go_sem]) rfl ⟨by rw [HN.out]; rfl, nx b1 b2⟩
      | true =>
        obtain ⟨i2, _, hpi2⟩ := plI_ge hhp
        rw [hpi2] at hpr
        rw [hhp] at HN
        clear h hg hh hi hpi hgi hpp hcell hrd hil2 hp0 hhp hpi2
        unfold tx at *
        go_enter Tryz.func38, Tryz.ntmps38
        go_wp2_with fail
        refine hpx.mono ?_
        rintro e w1 ⟨rfl, b1⟩
        have k1 := hc1 w1 b1
        have k2 := cell_later b1 hrb.2
        clear hpx
        go_wp2_with fail
        refine (hpr w1 b1).mono ?_
        rintro e w2 ⟨rfl, b2⟩
        have k3 := hc1 w2 (nx b1 b2)
        have k4 := cell_later b2 k2
        clear hpr
        go_wp2
        exact bodyPost_ret (v := .tuple #[.string ⟨p.toArray⟩, .bool true, .int .i64 0]) (by simp [results, Tryz.results38, go_sem]) rfl ⟨by rw [HN.out]; rfl, nx b1 b2⟩
end C
end Go.Proofs.YtbeihgjonhgfmaaGreatDoor
