/- Plain facts on chains: each of a chain comes once, each leads to the next; chains by tags alone. -/
import Derived.Test.YtbeihgjonhgfmaaGreatDoorChh
namespace Go.Proofs.YtbeihgjonhgfmaaGreatDoor
open Go.RowKit
namespace C
/-- Each of a chain leads to the one behind it, the last one to none. -/
def Lds (L : Row) : List Tx → Prop
  | [] => True
  | [x] => (next L x).2.1 = false ∧ (next L x).2.2 = 0
  | x :: y :: r => (next L x).1 = y ∧ (next L x).2.1 = true ∧ (next L x).2.2 = 0 ∧ Lds L (y :: r)
theorem next_more {L : Row} {x : Tx} (h : (next L x).2.1 = true) : (next L x).2.2 = 0 := by
  unfold next at *
  cases hg : get L x with
  | none => rw [hg] at h; simp at h
  | some p =>
    rw [hg] at h
    simp only at h ⊢
    split at h
    · rename_i hp
      rw [if_pos hp]
      split at h
      · rfl
      · cases h
    · rename_i hp
      rw [if_neg hp]
      split at h
      · rename_i hh
        rw [if_pos hh]
      · cases h
theorem room_not {x : Tx} {ss : List Tx} (h : room x ss = 0) : x ∉ ss := by
  unfold room at h
  split at h
  · cases h
  · rename_i hc
    simpa using hc
theorem go_ok (L : Row) : ∀ (n : Nat) (met : List Tx) (one : Tx) (c : List Tx), go L n met one = (c, 0) → met.Nodup → one ∉ met → met.length ≤ 5 → ∃ r, c = met ++ one :: r ∧ c.Nodup ∧ c.length ≤ 6 ∧ Lds L (one :: r)
  | 0, _, _, _, h, _, _, _ => by simp [go] at h
  | n + 1, met, one, c, h, hn, ho, hl => by
    rw [go_succ] at h
    have hmn : (met ++ [one]).Nodup := List.nodup_append.2 ⟨hn, by simp, fun a ha b hb => by rw [List.mem_singleton.1 hb]; exact fun e => ho (e ▸ ha)⟩
    cases hm : (next L one).2.1 with
    | false =>
      rw [hm] at h
      simp only [Bool.false_eq_true, if_false] at h
      by_cases he : (next L one).2.2 = 0
      · rw [if_pos he] at h
        injection h with h1 _
        exact ⟨[], h1.symm, h1 ▸ hmn, by rw [← h1, List.length_append, List.length_singleton]; omega, hm, he⟩
      · rw [if_neg he] at h
        injection h with _ h2
        exact absurd h2 he
    | true =>
      rw [hm] at h
      simp only [if_true] at h
      by_cases hr : room (next L one).1 (met ++ [one]) = 0
      · rw [if_pos hr] at h
        obtain ⟨r, h1, h2, h3, h4⟩ := go_ok L n _ _ c h hmn (room_not hr) (room_six hr)
        exact ⟨(next L one).1 :: r, by rw [h1, List.append_assoc]; rfl, h2, h3, rfl, hm, next_more hm, h4⟩
      · rw [if_neg hr] at h
        injection h with _ h2
        exact absurd h2 hr
theorem chain_ok {L : Row} {x : Tx} (h : (chain L x).2 = 0) : ∃ r, (chain L x).1 = x :: r ∧ (x :: r).Nodup ∧ (x :: r).length ≤ 6 ∧ Lds L (x :: r) := by
  unfold chain at *
  cases hb : has L x with
  | false => rw [hb] at h; simp at h
  | true =>
    rw [hb] at h
    simp only [if_true] at h ⊢
    obtain ⟨r, h1, h2, h3, h4⟩ := go_ok L 7 [] x (go L 7 [] x).1 (by rw [← h]) List.nodup_nil (by simp) (by simp)
    rw [List.nil_append] at h1
    rw [h1] at h2 h3
    exact ⟨r, h1, h2, h3, h4⟩
theorem lds_at {L : Row} : ∀ {c : List Tx}, Lds L c → ∀ k (h : k < c.length), (next L c[k]).2.2 = 0 ∧ (next L c[k]).2.1 = decide (k + 1 < c.length) ∧ ∀ h2 : k + 1 < c.length, (next L c[k]).1 = c[k + 1]
  | [], _, k, h => by simp at h
  | [x], hl, k, h => by
    obtain rfl : k = 0 := by simp at h; omega
    exact ⟨hl.2, by rw [List.getElem_cons_zero, hl.1]; rfl, fun h2 => by simp at h2⟩
  | x :: y :: r, hl, 0, h => ⟨hl.2.2.1, by rw [List.getElem_cons_zero, hl.2.1]; simp, fun h2 => hl.1⟩
  | x :: y :: r, hl, k + 1, h => by
    have := lds_at hl.2.2.2 k (by simpa using h)
    refine ⟨this.1, ?_, fun h2 => this.2.2 (by simpa using h2)⟩
    rw [List.getElem_cons_succ, this.2.1]
    simp
/-- Who has one in its chain, but itself. -/
def hasB (L : Row) (t k : Tx) : Bool := (chain L k).2 == 0 && ((chain L k).1.drop 1).contains t
theorem under_has (L : Row) (t : Tx) : under L t = (ks L).filter (hasB L t) := by
  unfold under hasB
  congr 1
  funext k
  by_cases he : (chain L k).2 = 0
  · obtain ⟨r, h1, h2, _, _⟩ := chain_ok he
    rw [h1]
    have hk : k ∉ r := (List.nodup_cons.1 h2).1
    by_cases hkt : k = t
    · subst hkt
      simp [he, hk]
    · have : ¬ t = k := fun e => hkt e.symm
      simp [he, hkt, this]
  · have : ((chain L k).2 == 0) = false := by simpa using he
    rw [this]; rfl
/-! chains by tags alone -/
theorem ups_split {t0 : Tx} : ∀ (n : Nat) (t : Tx), t ∈ upsF n t0 → rank t0 ≤ n → ∃ P, ups t0 = P ++ t :: ups t
  | 0, t, h, _ => by cases h
  | n + 1, t, h, hr => by
    rw [upsF] at h
    split at h
    · cases h
    · rename_i hp
      have hlt := rank_parent hp
      rcases List.mem_cons.1 h with rfl | h
      · exact ⟨[], by rw [ups_cons hp]; rfl⟩
      · obtain ⟨P, hP⟩ := ups_split n t h (by omega)
        exact ⟨G.parent t0 :: P, by rw [ups_cons hp, hP]; rfl⟩
theorem all_split {t0 t : Tx} (h0 : t0.length ≤ 40) (h : t ∈ t0 :: ups t0) : ∃ P, t0 :: ups t0 = P ++ t :: ups t := by
  rcases List.mem_cons.1 h with rfl | h
  · exact ⟨[], rfl⟩
  · have := rank40 h0
    obtain ⟨P, hP⟩ := ups_split 50 t h (by omega)
    exact ⟨t0 :: P, by rw [hP]; rfl⟩
theorem ups_rank : ∀ (n : Nat) (t : Tx), rank t ≤ n → (∀ u ∈ upsF n t, rank u < rank t) ∧ (upsF n t).Pairwise fun a b => rank b < rank a
  | 0, t, _ => by simp [upsF]
  | n + 1, t, hr => by
    rw [upsF]
    split
    · simp
    · rename_i hp
      have hlt := rank_parent hp
      obtain ⟨h1, h2⟩ := ups_rank n (G.parent t) (by omega)
      refine ⟨fun u hu => ?_, List.pairwise_cons.2 ⟨h1, h2⟩⟩
      rcases List.mem_cons.1 hu with rfl | hu
      · exact hlt
      · exact Nat.lt_trans (h1 u hu) hlt
theorem all_nodup {t0 : Tx} (h0 : t0.length ≤ 40) : (t0 :: ups t0).Nodup := by
  have := rank40 h0
  obtain ⟨h1, h2⟩ := ups_rank 50 t0 (by omega)
  refine List.nodup_cons.2 ⟨fun hm => by have := h1 t0 hm; omega, h2.imp fun hab e => by rw [e] at hab; omega⟩
theorem sub_split {t : Tx} {U w1 w2 : List Tx} : ∀ {P : List Tx}, (P ++ t :: U).Nodup → (w1 ++ t :: w2).Sublist (P ++ t :: U) → w1.Sublist P ∧ w2.Sublist U
  | P, hn, hs => by
    have hn' := List.nodup_append.1 hn
    have htP : t ∉ P := fun h => hn'.2.2 t h t (by simp) rfl
    have htU : t ∉ U := (List.nodup_cons.1 hn'.2.1).1
    obtain ⟨a, b, e, ha, hb⟩ := List.sublist_append_iff.1 hs
    -- t lies in b
    have htb : t ∈ b := by
      have : t ∈ a ++ b := by rw [← e]; simp
      rcases List.mem_append.1 this with h | h
      · exact absurd (ha.subset h) htP
      · exact h
    cases hb with
    | cons _ h => exact absurd (h.subset htb) htU
    | cons_cons _ h =>
      rename_i b'
      have hta : t ∉ a := fun h => htP (ha.subset h)
      have htb' : t ∉ b' := fun h' => htU (h.subset h')
      have hta1 : w1 = a ∧ w2 = b' := by
        have key : ∀ (x y x' y' : List Tx), t ∉ x → t ∉ x' → x ++ t :: y = x' ++ t :: y' → x = x' ∧ y = y' := by
          intro x
          induction x with
          | nil =>
            intro y x' y' _ hx' e
            cases x' with
            | nil => injection e with _ e; exact ⟨rfl, e⟩
            | cons z x' => injection e with e1 _; exact absurd (by rw [e1]; simp) hx'
          | cons z x ih =>
            intro y x' y' hx hx' e
            cases x' with
            | nil => injection e with e1 _; exact absurd (by rw [e1]; simp) hx
            | cons z' x' =>
              injection e with e1 e2
              obtain ⟨h1, h2⟩ := ih y x' y' (fun h => hx (by simp [h])) (fun h => hx' (by simp [h])) e2
              exact ⟨by rw [e1, h1], h2⟩
        refine key w1 w2 a b' (fun hw => ?_) hta e
        have hnd : (w1 ++ t :: w2).Nodup := hs.nodup hn
        exact (List.nodup_append.1 hnd).2.2 t hw t (by simp) rfl
      rw [hta1.1, hta1.2]
      exact ⟨ha, h⟩
theorem find_head {p : Tx → Bool} {U w2 : List Tx} (hs : w2.Sublist U) (hn : U.Nodup) (hp : ∀ x ∈ U, p x = true ↔ x ∈ w2) : U.find? p = w2.head? := by
  induction hs with
  | slnil => rfl
  | cons a h ih =>
    have hn' := List.nodup_cons.1 hn
    have : p a = false := by
      cases hpa : p a with
      | false => rfl
      | true => exact absurd (h.subset ((hp a (by simp)).1 hpa)) hn'.1
    rw [List.find?_cons, this]
    exact ih hn'.2 fun x hx => hp x (by simp [hx])
  | cons_cons a h ih =>
    rw [List.find?_cons, (hp a (by simp)).2 (by simp)]
    rfl
/-- A row of tags without named parents. -/
structure TgR (t0 : Tx) (want : List Tx) (L : Row) : Prop where
  len : t0.length ≤ 40
  sub : want.Sublist (t0 :: ups t0)
  get : ∀ x, get L x = if x ∈ want then some [] else none
  srt : Srt L
theorem TgR.has {t0 : Tx} {want : List Tx} {L : Row} (h : TgR t0 want L) (x : Tx) : has L x = true ↔ x ∈ want := by
  rw [← get_has, h.get]
  split
  · simp [*]
  · simp [*]
theorem TgR.next {t0 : Tx} {want : List Tx} {L : Row} (h : TgR t0 want L) {w1 : List Tx} {t : Tx} {w2 : List Tx} (e : want = w1 ++ t :: w2) : next L t = match w2.head? with | some y => (y, true, 0) | none => ([], false, 0) := by
  have htw : t ∈ want := by rw [e]; simp
  obtain ⟨P, hP⟩ := all_split h.len (h.sub.subset htw)
  have hnd := all_nodup h.len
  have hs := h.sub
  rw [hP] at hnd hs
  rw [e] at hs
  obtain ⟨h1, h2⟩ := sub_split hnd hs
  have hn' := List.nodup_append.1 hnd
  have hf : (ups t).find? (C.has L) = w2.head? := find_head h2 (List.nodup_cons.1 hn'.2.1).2 fun x hx => by
    rw [h.has x, e, List.mem_append, List.mem_cons]
    constructor
    · rintro (hw | rfl | hw)
      · exact absurd rfl (hn'.2.2 x (h1.subset hw) x (by simp [hx]))
      · exact absurd hx (List.nodup_cons.1 hn'.2.1).1
      · exact hw
    · exact fun hw => .inr (.inr hw)
  unfold C.next
  rw [h.get, if_pos htw]
  simp only [if_true, hf]
  cases w2.head? <;> rfl
theorem TgR.go {t0 : Tx} {want : List Tx} {L : Row} (h : TgR t0 want L) (h6 : want.length ≤ 6) : ∀ (w2 : List Tx) (n : Nat) (w0 met : List Tx) (t : Tx), want = w0 ++ met ++ t :: w2 → w2.length < n → go L n met t = (met ++ t :: w2, 0)
  | w2, 0, _, _, _, _, hn => by omega
  | [], n + 1, w0, met, t, e, hn => by
    rw [go_succ, h.next e]
    rfl
  | y :: r, n + 1, w0, met, t, e, hn => by
    have hnx : C.next L t = (y, true, 0) := h.next e
    rw [go_succ, hnx]
    have hnd : want.Nodup := h.sub.nodup (all_nodup h.len)
    have hr : room y (met ++ [t]) = 0 := by
      unfold room
      have hy : (met ++ [t]).contains y = false := by
        rw [e, List.append_assoc] at hnd
        have h2 := (List.nodup_append.1 hnd).2.1
        have h3 := List.nodup_append.1 h2
        have hym : y ∉ met := fun hm => h3.2.2 y hm y (by simp) rfl
        have hyt : ¬ y = t := fun e' => by
          have := (List.nodup_cons.1 h3.2.1).1
          exact this (by rw [← e']; simp)
        simp [hym, hyt]
      rw [hy]
      have hl : want.length = w0.length + met.length + (r.length + 2) := by rw [e]; simp; omega
      rw [if_neg (by simp), if_neg (by rw [List.length_append, List.length_singleton]; omega)]
    simp only [if_true]
    rw [if_pos hr, TgR.go h h6 r n w0 (met ++ [t]) y (by rw [e]; simp) (by simp at hn; omega)]
    simp
theorem TgR.chain {t0 : Tx} {want : List Tx} {L : Row} (h : TgR t0 want L) (h6 : want.length ≤ 6) {w1 : List Tx} {t : Tx} {w2 : List Tx} (e : want = w1 ++ t :: w2) : chain L t = (t :: w2, 0) := by
  unfold C.chain
  rw [(h.has t).2 (by rw [e]; simp)]
  simp only [if_true]
  have hl : want.length = w1.length + (w2.length + 1) := by rw [e]; simp
  exact h.go h6 w2 7 w1 [] t (by simpa using e) (by omega)
theorem TgR.check {t0 : Tx} {want : List Tx} {L : Row} (h : TgR t0 want L) (h6 : want.length ≤ 6) : check L = ([], 0) := by
  unfold C.check
  rw [List.find?_eq_none.2]
  intro k hk
  obtain ⟨w1, w2, e⟩ := List.append_of_mem ((h.has k).1 (has_ks.2 hk))
  rw [h.chain h6 e]
  simp
theorem TgR.under {t0 : Tx} {want : List Tx} {L : Row} (h : TgR t0 want L) (h6 : want.length ≤ 6) {w1 : List Tx} {z : Tx} (e : want = w1 ++ [z]) : (under L z).length = w1.length := by
  have hnd : want.Nodup := h.sub.nodup (all_nodup h.len)
  have hkn := ks_nodup h.srt
  have : (C.under L z).Perm w1 := by
    refine (List.perm_ext_iff_of_nodup (hkn.filter _) ((List.nodup_append.1 (e ▸ hnd)).1)).2 fun k => ?_
    rw [List.mem_filter, ← has_ks, h.has k]
    constructor
    · rintro ⟨hk, hb⟩
      rw [e, List.mem_append, List.mem_singleton] at hk
      rcases hk with hk | rfl
      · exact hk
      · simp at hb
    · intro hk
      have hkw : k ∈ want := by rw [e]; simp [hk]
      have hkz : ¬ k = z := fun e' => (List.nodup_append.1 (e ▸ hnd)).2.2 k hk z (by simp) e'
      refine ⟨hkw, ?_⟩
      obtain ⟨a, b, e1⟩ := List.append_of_mem hk
      rw [h.chain h6 (w1 := a) (t := k) (w2 := b ++ [z]) (by rw [e, e1]; simp)]
      simp [hkz]
  exact this.length_eq
end C
end Go.Proofs.YtbeihgjonhgfmaaGreatDoor
