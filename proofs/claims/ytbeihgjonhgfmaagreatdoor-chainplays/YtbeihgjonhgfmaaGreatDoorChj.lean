/- A forest of the call's own, beside rows of texts; two rows held against one another; the first look. -/
import Derived.Test.YtbeihgjonhgfmaaGreatDoorChi
namespace Go.Proofs.YtbeihgjonhgfmaaGreatDoor
open Go.RowKit Go.Shelf Go.Maps
attribute [local go_sem] Oper.semAt_some
namespace C
theorem drewN_b {n : Nat} {w W : World} (h : Below n w W) {k : Nat} : Below n w (W.drewN k) := ⟨h.os, h.tape, h.output, h.size, h.block⟩
/-- Rows of texts are as they were. -/
def Kp (w W' : World) : Prop := (∀ B v ss, OwnN w B v ss → OwnN W' B v ss) ∧ ∀ ao ss, RdT w ao ss → RdT W' ao ss
theorem Kp.refl (w : World) : Kp w w := ⟨fun _ _ _ h => h, fun _ _ h => h⟩
theorem Kp.trans {w w1 w2 : World} (h : Kp w w1) (k : Kp w1 w2) : Kp w w2 := ⟨fun _ _ _ x => k.1 _ _ _ (h.1 _ _ _ x), fun _ _ x => k.2 _ _ (h.2 _ _ x)⟩
theorem Kp.of {w W' : World} (b : Below w.heap.size w W') : Kp w W' := ⟨fun _ _ _ h => h.later b, fun _ _ h => h.later b⟩
theorem Kp.alt {w W' : World} {a : Nat} {mb : Option Nat} {L : Row} (h : FO w a mb L) (al : Alt w W' a mb) : Kp w W' := by
  have hm : ∀ b, mb = some b → ∃ es c, w.heap[b]? = some (.map es c) := fun b e => by
    have := h.map
    rw [e] at this
    obtain ⟨es, c, hb, _⟩ := this
    exact ⟨es, c, hb⟩
  constructor
  · intro B v ss ho
    obtain ⟨h1, h2 | ⟨g, cap, cur, rfl, h3, h4, h5⟩⟩ := ho
    · exact ⟨h1, .inl h2⟩
    · refine ⟨h1, .inr ⟨g, cap, cur, rfl, h3, (al.block g (Array.getElem?_eq_some_iff.1 h4).1 (fun e => ?_) (fun e => ?_)).trans h4, h5⟩⟩
      · rw [e, h.box] at h4; cases h4
      · obtain ⟨es, c, hb⟩ := hm g e
        rw [hb] at h4; cases h4
  · intro ao ss hr i hi
    obtain ⟨b, off, e1, e2, e3⟩ := hr i hi
    have hk : W'.heap[b]? = w.heap[b]? := al.block b e2 (fun e => by
      rw [e] at e3
      simp only [World.cell?, h.box] at e3
      cases hoi : off + i with
      | zero => rw [hoi] at e3; simp at e3
      | succ n => rw [hoi] at e3; simp at e3) (fun e => by
      obtain ⟨es, c, hb⟩ := hm b e
      simp only [World.cell?, hb] at e3
      cases e3)
    exact ⟨b, off, e1, Nat.lt_of_lt_of_le e2 al.size, by rw [← e3]; simp [World.cell?, hk]⟩
theorem AF.below {w W' : World} {n : Nat} (h : AF w) (hb : Below n w W') (hn : 0 < n) : AF W' := AF.same h (hb.block 0 hn)
/-- A forest of the call's own. -/
def FB (n0 : Nat) (w : World) (a : Nat) (L : Row) : Prop := ∃ mb, FO w a mb L ∧ n0 ≤ a ∧ ∀ b, mb = some b → n0 ≤ b
theorem FB.later {n0 : Nat} {w W' : World} {a : Nat} {L : Row} (h : FB n0 w a L) (hb : Below w.heap.size w W') : FB n0 W' a L := by
  obtain ⟨mb, h1, h2⟩ := h
  exact ⟨mb, h1.later hb, h2⟩
theorem FB.srt {n0 : Nat} {w : World} {a : Nat} {L : Row} (h : FB n0 w a L) : Srt L := by
  obtain ⟨mb, h1, h2⟩ := h
  exact h1.srt
theorem FB.app {n0 : Nat} {W w9 : World} {a : Nat} {L : Row} {B : Nat} {v : Value} {ss : List Tx} {tmp : Obj} (h : FB n0 W a L) (hO : OwnN W B v ss) (hg : (W.alloc tmp).grownBy w9 v.ownBlock) : FB n0 w9 a L := by
  obtain ⟨mb, h1, h2⟩ := h
  have key : ∀ k o, W.heap[k]? = some o → (∀ cur, o ≠ Obj.cells cur 9 (0, 0)) → w9.heap[k]? = W.heap[k]? := fun k o hk hne => by
    have hlt := (Array.getElem?_eq_some_iff.1 hk).1
    refine (hg.block k (by simp; omega) (fun e => ?_)).trans (Below.heap_alloc _ _ _ hlt)
    obtain ⟨_, ⟨rfl, _⟩ | ⟨g, cap, cur, rfl, _, h4, _⟩⟩ := hO
    · simp [Value.ownBlock] at e
    · have e' : g = k := by simpa [Value.ownBlock] using e.symm
      rw [e', hk] at h4
      injection h4 with h4
      exact hne cur h4
  refine ⟨mb, h1.same (key a _ h1.box (fun cur e => by cases e)) (fun b e => ?_), h2⟩
  have := h1.map
  rw [e] at this
  obtain ⟨es, c, hb, _⟩ := this
  exact key b _ hb (fun cur e => by cases e)
theorem FB.new {w : World} : ∀ {e : Ending} {W' : World}, (e = .returned (.pointer (some ⟨w.heap.size, 0, none⟩)) ∧ FO W' w.heap.size none [] ∧ Below w.heap.size w W') → FB w.heap.size W' w.heap.size [] := fun h => ⟨none, h.2.1, Nat.le_refl _, fun b e => by cases e⟩
theorem isT_len {k : Tx} (h : G.isT k = true) : k.length ≤ 40 := by
  by_cases hr : k = G.rootB
  · rw [hr]; decide
  · obtain ⟨_, _, _, h4, _⟩ := G.isT_cases h hr; exact h4
theorem setB_ok {n0 : Nat} {w : World} {a : Nat} {L : Row} (h : FB n0 w a L) (hn0 : n0 ≤ w.heap.size) (k p : Tx) (hk : G.isT k = true) (hp : p = [] ∨ G.isT p = true) (hn : L.length < 1000000) (hA : AF w) :
    Calls Tryz.prog 11 #[.pointer (some ⟨a, 0, none⟩), tx k, tx p] w fun e W' => e = .returned (.int .i64 0) ∧ FB n0 W' a (put L k p) ∧ Below n0 w W' ∧ Kp w W' := by
  obtain ⟨mb, h1, h2, h3⟩ := h
  have hkl := isT_len hk
  have hpl : p.length ≤ 40 := by rcases hp with rfl | hp; simp; exact isT_len hp
  refine (setF_any h1 k p (by omega) (by omega) hn hA).mono ?_
  rintro e W' ⟨⟨_, _, he, mb', hf, hnu⟩ | ⟨hno, _⟩, al⟩
  · refine ⟨he, ⟨mb', hf, h2, fun b e => ?_⟩, al.below h2 h3 hn0, Kp.alt h1 al⟩
    rcases hnu with hnu | ⟨_, b', e', hb'⟩
    · exact h3 b (hnu ▸ e)
    · rw [e'] at e; cases e; exact Nat.le_trans hn0 hb'
  · exact absurd ⟨hk, hp⟩ hno
theorem setB_no {n0 : Nat} {w : World} {a : Nat} {L : Row} (h : FB n0 w a L) (hn0 : n0 ≤ w.heap.size) (k p : Tx) (hkl : k.length ≤ 9223372036854775807) (hpl : p.length ≤ 9223372036854775807) (hno : ¬ (G.isT k = true ∧ (p = [] ∨ G.isT p = true))) (hn : L.length < 1000000) (hA : AF w) :
    Calls Tryz.prog 11 #[.pointer (some ⟨a, 0, none⟩), tx k, tx p] w fun e W' => e = .returned (.int .i64 100) ∧ FB n0 W' a L ∧ Below n0 w W' ∧ Kp w W' := by
  obtain ⟨mb, h1, h2, h3⟩ := h
  refine (setF_any h1 k p hkl hpl hn hA).mono ?_
  rintro e W' ⟨⟨hk, hp, _⟩ | ⟨_, he, hf⟩, al⟩
  · exact absurd ⟨hk, hp⟩ hno
  · exact ⟨he, ⟨mb, hf, h2, h3⟩, al.below h2 h3 hn0, Kp.alt h1 al⟩
theorem dropB {n0 : Nat} {w : World} {a : Nat} {L : Row} (h : FB n0 w a L) (hn0 : n0 ≤ w.heap.size) (x : Tx) (hx : x.length ≤ 9223372036854775807) :
    Calls Tryz.prog 16 #[.pointer (some ⟨a, 0, none⟩), tx x] w fun e W' => e = .returned (.int .i64 (if has L x then 0 else 240)) ∧ FB n0 W' a (del L x) ∧ Below n0 w W' ∧ Kp w W' := by
  obtain ⟨mb, h1, h2, h3⟩ := h
  refine (dropF_any h1 x hx).mono ?_
  rintro e W' ⟨he, hf, al⟩
  exact ⟨he, ⟨mb, hf, h2, h3⟩, al.below h2 h3 hn0, Kp.alt h1 al⟩
theorem chainB {n0 : Nat} {w : World} {a : Nat} {L : Row} (h : FB n0 w a L) (x : Tx) (hx : x.length ≤ 9223372036854775807) (hA : AF w) :
    Calls Tryz.prog 14 #[.pointer (some ⟨a, 0, none⟩), tx x] w fun e W' => AnsH L x w e W' ∧ Below w.heap.size w W' := by
  obtain ⟨mb, h1, _⟩ := h
  exact chain_any h1 x hx hA
theorem checkB {n0 : Nat} {w : World} {a : Nat} {L : Row} (h : FB n0 w a L) (hn : L.length ≤ 1000000) (hA : AF w) :
    Calls Tryz.prog 21 #[.pointer (some ⟨a, 0, none⟩)] w fun e W' => e = .returned (.tuple #[tx (check L).1, .int .i64 ((check L).2 : Int)]) ∧ Below w.heap.size w W' := by
  obtain ⟨mb, h1, _⟩ := h
  exact check_any h1 hn hA
theorem underB {n0 : Nat} {w : World} {a : Nat} {L : Row} (h : FB n0 w a L) (hn : L.length ≤ 1000000) (hA : AF w) (x : Tx) :
    Calls Tryz.prog 13 #[.pointer (some ⟨a, 0, none⟩), tx x] w fun e W' => ∃ v, e = .returned v ∧ OwnN W' w.heap.size v (under L x) ∧ Below w.heap.size w W' := by
  obtain ⟨mb, h1, _⟩ := h
  exact under_any h1 hn hA x
theorem allB {n0 : Nat} {w : World} {a : Nat} {L : Row} (h : FB n0 w a L) (hn : L.length ≤ 1000000) :
    Calls Tryz.prog 12 #[.pointer (some ⟨a, 0, none⟩)] w fun e W' => ∃ v, e = .returned v ∧ OwnN W' w.heap.size v (ks L) ∧ Below w.heap.size w W' := by
  obtain ⟨mb, h1, _⟩ := h
  exact all_any h1 hn
set_option maxRecDepth 100000 in
set_option maxHeartbeats 2000000 in
theorem texts_any (w : World) (ao bo : Option Addr) (c1 c2 : Nat) (ss ts : List Tx) (hr : RdT w ao ss) (hq : RdT w bo ts) (hl : ss.length ≤ 1000000) :
    Calls Tryz.prog 25 #[.slice ao ss.length c1, .slice bo ts.length c2] w fun e W' => e = .returned (.bool (ss == ts)) ∧ Below w.heap.size w W' := by
  have HR := hide hr
  have HQ := hide hq
  have hes := elemSize30
  clear hr hq
  obtain ⟨rr, hrr⟩ : ∃ rr, rr = (ss == ts) := ⟨_, rfl⟩
  rw [← hrr]
  have HRR := hide hrr
  clear hrr
  by_cases hlen : ss.length = ts.length
  · have g1 : ((ss.length : Int) == (ts.length : Int)) = true := by rw [hlen]; simp
    have HL := hide hlen
    clear hlen
    go_enter Tryz.func25, Tryz.ntmps25
    go_wp2
    go_loopw [5] (fun u wr => ∃ i : Nat, u = .int .i64 (i : Int) ∧ i ≤ ss.length ∧ Hid (ss.take i = ts.take i) ∧ Below w.heap.size w wr) (fun u _ => ss.length - (intOf u).toNat)
    case atStart => exact ⟨0, rfl, by omega, hide (by simp), Below.refl _ _⟩
    case round =>
      obtain ⟨i, rfl, hi, HE, hb⟩ := hrel
      by_cases hlt : i < ss.length
      · have hlt2 : i < ts.length := by have := HL.out; omega
        obtain ⟨b, off, rfl, hbb, hc⟩ := (HR.out.later hb) i hlt
        obtain ⟨b', off', rfl, hbb', hc'⟩ := (HQ.out.later hb) i hlt2
        have HT : Hid (ss.take (i + 1) = ss.take i ++ [ss[i]] ∧ ts.take (i + 1) = ts.take i ++ [ts[i]]) := hide ⟨List.take_succ_eq_append_getElem hlt, List.take_succ_eq_append_getElem hlt2⟩
        have HX : Hid (ss[i]? = some ss[i] ∧ ts[i]? = some ts[i]) := hide ⟨List.getElem?_eq_getElem hlt, List.getElem?_eq_getElem hlt2⟩
        generalize ss[i] = y at *
        generalize ts[i] = z at *
        have HB := hide hb
        clear hb
        unfold tx at *
        by_cases hyz : y = z
        · have he : (y == z) = true := by simpa using hyz
          have HN : Hid (ss.take (i + 1) = ts.take (i + 1)) := hide (by rw [HT.out.1, HT.out.2, HE.out, hyz])
          clear hyz
          go_wp2
          go_quiet (fail)
          go_wp2
          go_roundw
          case rel => exact ⟨i + 1, by go_num, by omega, HN, drewN_b HB.out⟩
          case measure => simp [intOf]; omega
        · have he : (y == z) = false := by simpa using hyz
          have HN : Hid (rr = false) := hide (by
            rw [HRR.out]
            rw [beq_eq_false_iff_ne]
            intro e
            have h1 := HX.out.1
            rw [e, HX.out.2] at h1
            injection h1 with h1
            exact hyz h1.symm)
          clear hyz
          go_wp2
          go_quiet (fail)
          go_wp2
          go_ret
          exact ⟨by rw [HN.out]; rfl, drewN_b HB.out⟩
      · have HN : Hid (rr = true) := hide (by
          rw [HRR.out]
          have h1 := HE.out
          have h2 := HL.out
          rw [List.take_of_length_le (by omega), List.take_of_length_le (by omega)] at h1
          rw [h1]; simp)
        have HB := hide hb
        clear hb
        go_wp2
        go_ret
        exact ⟨by rw [HN.out]; rfl, HB.out⟩
  · have g1 : ((ss.length : Int) == (ts.length : Int)) = false := by simp; omega
    have HN : Hid (rr = false) := hide (by
      rw [HRR.out]
      rw [beq_eq_false_iff_ne]
      exact fun e => hlen (by rw [e]))
    clear hlen
    go_enter Tryz.func25, Tryz.ntmps25
    go_wp2
    go_ret
    exact ⟨by rw [HN.out]; rfl, Below.refl _ _⟩
end C
end Go.Proofs.YtbeihgjonhgfmaaGreatDoor
