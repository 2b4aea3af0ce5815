/- A chain: plain facts on its steps, the program's walk. -/
import Derived.Test.YtbeihgjonhgfmaaGreatDoorChg
namespace Go.Proofs.YtbeihgjonhgfmaaGreatDoor
open Go.RowKit Go.Shelf Go.Maps
attribute [local go_sem] Oper.semAt_some
namespace C
theorem go_succ (L : Row) (n : Nat) (met : List Tx) (one : Tx) : go L (n + 1) met one = if (next L one).2.1 then (if room (next L one).1 (met ++ [one]) = 0 then go L n (met ++ [one]) (next L one).1 else ([], room (next L one).1 (met ++ [one]))) else if (next L one).2.2 = 0 then (met ++ [one], 0) else ([], (next L one).2.2) := rfl
theorem go_trace (L : Row) : ∀ (n : Nat) (met : List Tx) (one : Tx), met.length + (n + 1) = 7 →
    ((go L (n + 1) met one).2 = 0 ∧ ∃ ss : List Tx, trace L (n + 1) met one = ss.map (fun t => (t, 0)) ∧ (go L (n + 1) met one).1 = met ++ ss) ∨
    ((go L (n + 1) met one).2 ≠ 0 ∧ (go L (n + 1) met one).1 = [] ∧ ∃ ss : List Tx, trace L (n + 1) met one = ss.map (fun t => (t, 0)) ++ [([], (go L (n + 1) met one).2)])
  | n, met, one, hl => by
    rw [go_succ, trace]
    cases hm : (next L one).2.1 with
    | false =>
      simp only [Bool.false_eq_true, if_false]
      by_cases he : (next L one).2.2 = 0
      · rw [if_pos he, if_pos he]
        exact .inl ⟨rfl, [one], rfl, rfl⟩
      · rw [if_neg he, if_neg he]
        exact .inr ⟨he, rfl, [one], rfl⟩
    | true =>
      simp only [if_true]
      by_cases hr : room (next L one).1 (met ++ [one]) = 0
      · rw [if_pos hr, if_pos hr]
        have h5 := room_six hr
        rw [List.length_append, List.length_singleton] at h5
        obtain ⟨m, rfl⟩ : ∃ m, n = m + 1 := ⟨n - 1, by omega⟩
        rcases go_trace L m (met ++ [one]) (next L one).1 (by rw [List.length_append, List.length_singleton]; omega) with ⟨h1, ss, h2, h3⟩ | ⟨h1, h2, ss, h3⟩
        · exact .inl ⟨h1, one :: ss, by rw [h2]; rfl, by rw [h3, List.append_assoc]; rfl⟩
        · exact .inr ⟨h1, h2, one :: ss, by rw [h3]; rfl⟩
      · rw [if_neg hr, if_neg hr]
        exact .inr ⟨hr, rfl, [one], rfl⟩
theorem steps_chain (L : Row) (x : Tx) : ((chain L x).2 = 0 ∧ steps L x = (chain L x).1.map fun t => (t, 0)) ∨ ((chain L x).2 ≠ 0 ∧ (chain L x).1 = [] ∧ ∃ ss : List Tx, steps L x = ss.map (fun t => (t, 0)) ++ [([], (chain L x).2)]) := by
  unfold chain steps
  cases hb : has L x with
  | false => exact .inr ⟨by simp, rfl, [], rfl⟩
  | true =>
    simp only [if_true]
    rcases go_trace L 6 [] x rfl with ⟨h1, ss, h2, h3⟩ | ⟨h1, h2, ss, h3⟩
    · exact .inl ⟨h1, by rw [h2, h3]; rfl⟩
    · exact .inr ⟨h1, h2, ss, h3⟩
theorem trace_len {w : World} {a : Nat} {mb : Option Nat} {L : Row} (h : FO w a mb L) : ∀ (n : Nat) (met : List Tx) (one : Tx), one.length ≤ 40 → ∀ p ∈ trace L n met one, p.1.length ≤ 40
  | 0, _, _, _, p, hp => by cases hp
  | n + 1, met, one, h1, p, hp => by
    rw [trace] at hp
    rcases List.mem_cons.1 hp with rfl | hp
    · exact h1
    · split at hp
      · split at hp
        · exact trace_len h n _ _ (next_len h one) p hp
        · rw [List.mem_singleton.1 hp]; simp
      · split at hp
        · cases hp
        · rw [List.mem_singleton.1 hp]; simp
theorem trace_few (L : Row) : ∀ (n : Nat) (met : List Tx) (one : Tx), (trace L n met one).length ≤ n + 1
  | 0, _, _ => by simp [trace]
  | n + 1, met, one => by
    rw [trace, List.length_cons]
    split
    · split
      · have := trace_few L n (met ++ [one]) (next L one).1; omega
      · simp
    · split <;> simp
theorem steps_few (L : Row) (x : Tx) : (steps L x).length ≤ 8 := by
  unfold steps
  split
  · exact trace_few L 7 [] x
  · simp
theorem steps_len {w : World} {a : Nat} {mb : Option Nat} {L : Row} (h : FO w a mb L) (x : Tx) : ∀ p ∈ steps L x, p.1.length ≤ 40 := by
  unfold steps
  cases hb : has L x with
  | false => simp
  | true =>
    simp only [if_true]
    obtain ⟨y, hy, rfl⟩ := List.mem_map.1 (has_ks.1 hb)
    exact trace_len h 7 [] _ (h.small y hy).1
/-- Chain's memory between the rounds. -/
structure CH (w : World) (l e0 : Nat) (r : Loop) (ss : List Tx) (P : Nat → Prop) (A : World) : Prop where
  r0 : A.heap[w.heap.size]? = some (.cells #[.slice none 0 0] 30)
  r1 : A.heap[w.heap.size + 1]? = some (.cells #[.int .i64 0] 26)
  own : ∃ v, A.heap[w.heap.size + 1 + 1]? = some (.cells #[v] 30) ∧ OwnN A e0 v ss ∧ ∀ k, v.ownBlock = some k → ¬ P k
  rec_ : A.heap[l + 1]? = some (.loop r)
  def_ : A.heap[l]? = some (.deferred (some []))
  below : Below w.heap.size w A
  le : e0 ≤ A.heap.size
  nb : ¬ P (w.heap.size + 1 + 1)
  nl : ¬ P (l + 1)
  hp : ∀ k, P k → k < A.heap.size
/-- Chain's memory where it has left the rounds. -/
structure CS (w : World) (l : Nat) (c : Int) (A : World) : Prop where
  r0 : A.heap[w.heap.size]? = some (.cells #[.slice none 0 0] 30)
  r1 : A.heap[w.heap.size + 1]? = some (.cells #[.int .i64 c] 26)
  rec_ : ∃ rd : Loop, rd.state = .done ∧ rd.pending = some .ret ∧ A.heap[l + 1]? = some (.loop rd)
  def_ : A.heap[l]? = some (.deferred (some []))
  below : Below w.heap.size w A
section
variable {w : World} {l e0 : Nat} {r rb : Loop} {ss : List Tx} {P : Nat → Prop} {A : World}
theorem CH.thr (h : CH w l e0 r ss P A) (hl : w.heap.size + 1 + 1 < l) (he : l + 2 ≤ e0) {B : World} {P' : Nat → Prop} (hb : Thr (fun k => P k ∧ e0 ≤ k) A B) (hp : ∀ k, P' k → P k ∨ (A.heap.size ≤ k ∧ k < B.heap.size)) : CH w l e0 r ss P' B := by
  obtain ⟨h0, h1, ⟨v, h2, h3, h4⟩, h5, h6, h7, h8, h9, h10, h11⟩ := h
  have hk : ∀ i, i < e0 → B.heap[i]? = A.heap[i]? := fun i hi => hb.block i (by omega) (fun hn => by omega)
  refine ⟨(hk _ (by omega)).trans h0, (hk _ (by omega)).trans h1, ⟨v, (hk _ (by omega)).trans h2, ?_, fun k hv hn => ?_⟩, (hk _ (by omega)).trans h5, (hk _ (by omega)).trans h6, ⟨hb.os.trans h7.os, hb.tape.trans h7.tape, hb.output.trans h7.output, Nat.le_trans h7.size hb.size, fun k hk' => (hk k (by omega)).trans (h7.block k hk')⟩, Nat.le_trans h8 hb.size, fun hn => ?_, fun hn => ?_, fun k hn => ?_⟩
  · obtain ⟨q1, q2 | ⟨g, cap, cur, rfl, q3, q4, q5⟩⟩ := h3
    · exact ⟨q1, .inl q2⟩
    · exact ⟨q1, .inr ⟨g, cap, cur, rfl, q3, (hb.block g (Array.getElem?_eq_some_iff.1 q4).1 (fun hn => h4 g rfl hn.1)).trans q4, q5⟩⟩
  · rcases hp k hn with hp | hp
    · exact h4 k hv hp
    · obtain ⟨_, ⟨rfl, _⟩ | ⟨g, cap, cur, rfl, _, q4, _⟩⟩ := h3
      · simp [Value.ownBlock] at hv
      · have : g = k := by simpa [Value.ownBlock] using hv
        have := (Array.getElem?_eq_some_iff.1 q4).1
        omega
  · rcases hp _ hn with hp | hp
    · exact h9 hp
    · omega
  · rcases hp _ hn with hp | hp
    · exact h10 hp
    · omega
  · rcases hp k hn with hp | hp
    · exact Nat.lt_of_lt_of_le (h11 k hp) hb.size
    · exact hp.2
theorem CH.grow (h : CH w l e0 r ss P A) (hl : w.heap.size + 1 + 1 < l) (he : l + 2 ≤ e0) {B : World} (hb : Below A.heap.size A B) : CH w l e0 r ss P B := h.thr hl he (Thr.of hb) fun _ hk => .inl hk
theorem CH.busy (h : CH w l e0 r ss P A) (hl : w.heap.size + 1 + 1 < l) (he : l + 2 ≤ e0) : CH w l e0 rb ss P (A.putObj (l + 1) (.loop rb)) := by
  obtain ⟨h0, h1, ⟨v, h2, h3, h4⟩, h5, h6, h7, h8, h9, h10, h11⟩ := h
  have hne : ∀ k, k ≠ l + 1 → (A.putObj (l + 1) (.loop rb)).heap[k]? = A.heap[k]? := fun k hk => World.putObj_heap_other hk
  exact ⟨(hne _ (by omega)).trans h0, (hne _ (by omega)).trans h1, ⟨v, (hne _ (by omega)).trans h2, h3.same (fun g o hg ho => (hne g (by omega)).trans ho), h4⟩, World.putObj_heap_same (Array.getElem?_eq_some_iff.1 h5).1, (hne _ (by omega)).trans h6, h7.trans (below_put _ _ (by omega)), by rw [World.putObj_size]; exact h8, h9, h10, fun k hk => by rw [World.putObj_size]; exact h11 k hk⟩
theorem CH.stop (h : CH w l e0 rb ss P A) (hl : w.heap.size + 1 + 1 < l) (c : Int) :
    ((A.setCell ⟨w.heap.size, 0, none⟩ (.slice none 0 0)).setCell ⟨w.heap.size + 1, 0, none⟩ (.int .i64 c)).heap[l + 1]? = some (.loop rb) ∧
    ∀ rd : Loop, rd.state = .done → rd.pending = some .ret → CS w l c (((A.setCell ⟨w.heap.size, 0, none⟩ (.slice none 0 0)).setCell ⟨w.heap.size + 1, 0, none⟩ (.int .i64 c)).putObj (l + 1) (.loop rd)) := by
  have m : ∀ k, k ≠ w.heap.size → k ≠ w.heap.size + 1 → ((A.setCell ⟨w.heap.size, 0, none⟩ (.slice none 0 0)).setCell ⟨w.heap.size + 1, 0, none⟩ (.int .i64 c)).heap[k]? = A.heap[k]? := fun k hk hk' => (set_ne _ hk').trans (set_ne _ hk)
  have m1 := (m (l + 1) (by omega) (by omega)).trans h.rec_
  refine ⟨m1, fun rd e1 e2 => ?_⟩
  have hne : ∀ k, k ≠ l + 1 → (((A.setCell ⟨w.heap.size, 0, none⟩ (.slice none 0 0)).setCell ⟨w.heap.size + 1, 0, none⟩ (.int .i64 c)).putObj (l + 1) (.loop rd)).heap[k]? = _ := fun k hk => World.putObj_heap_other hk
  refine ⟨(hne _ (by omega)).trans ((set_ne _ (by omega)).trans (set_one h.r0 _)), (hne _ (by omega)).trans (set_one ((set_ne _ (by omega)).trans h.r1) _), ⟨rd, e1, e2, World.putObj_heap_same (Array.getElem?_eq_some_iff.1 m1).1⟩, (hne _ (by omega)).trans ((m l (by omega) (by omega)).trans h.def_), ?_⟩
  exact ((h.below.setCell (p := ⟨w.heap.size, 0, none⟩) (Nat.le_refl _) _).setCell (p := ⟨w.heap.size + 1, 0, none⟩) (by show w.heap.size ≤ w.heap.size + 1; omega) _).trans (below_put _ _ (by omega))
/-- One text more. -/
theorem CH.next (h : CH w l e0 rb ss P A) (hl : w.heap.size + 1 + 1 < l) (he : l + 2 ≤ e0) {v v' : Value} {tmp : Obj} {w1 : World} {t : Tx} (h0 : A.heap[w.heap.size + 1 + 1]? = some (.cells #[v] 30)) (hv : OwnN A e0 v ss) (hn : ∀ k, v.ownBlock = some k → ¬ P k)
    (hown : w1.ownsRow e0 9 1 v' (ss.length + 1) (ss.map tx ++ [tx t])) (hg : (A.alloc tmp).grownBy w1 v.ownBlock) (hat : v'.ownBlock = v.ownBlock ∨ v'.ownBlock = some (A.alloc tmp).heap.size) :
    (w1.setCell ⟨w.heap.size + 1 + 1, 0, none⟩ v').heap[l + 1]? = some (.loop rb) ∧ CH w l e0 r (ss ++ [t]) P ((w1.setCell ⟨w.heap.size + 1 + 1, 0, none⟩ v').putObj (l + 1) (.loop r)) ∧
    (∀ k, k < A.heap.size → P k → ((w1.setCell ⟨w.heap.size + 1 + 1, 0, none⟩ v').putObj (l + 1) (.loop r)).heap[k]? = A.heap[k]?) ∧ A.heap.size ≤ ((w1.setCell ⟨w.heap.size + 1 + 1, 0, none⟩ v').putObj (l + 1) (.loop r)).heap.size := by
  have hle := h.le
  have hlow : ∀ i, i < e0 → w1.heap[i]? = A.heap[i]? := fun i hi =>
    (hg.block i (by simp; omega) (fun e => by have := hv.block i e.symm; omega)).trans (Below.heap_alloc _ _ _ (by omega))
  have hs1 : A.heap.size ≤ w1.heap.size := Nat.le_trans (by simp) hg.size
  have g0 : w1.heap[w.heap.size + 1 + 1]? = some (.cells #[v] 30) := (hlow _ (by omega)).trans h0
  have m : ∀ i, i ≠ w.heap.size + 1 + 1 → (w1.setCell ⟨w.heap.size + 1 + 1, 0, none⟩ v').heap[i]? = w1.heap[i]? := fun i h1 => set_ne _ h1
  have ml := (m (l + 1) (by omega)).trans ((hlow _ (by omega)).trans h.rec_)
  have hbw : Below w.heap.size w (w1.setCell ⟨w.heap.size + 1 + 1, 0, none⟩ v') := by
    have hb := h.below
    have h1 : Below w.heap.size w w1 := ⟨hg.os.trans hb.os, hg.tape.trans hb.tape, hg.output.trans hb.output, Nat.le_trans hb.size hs1, fun i hi => (hlow i (by omega)).trans (hb.block i hi)⟩
    exact h1.setCell (p := ⟨w.heap.size + 1 + 1, 0, none⟩) (by show w.heap.size ≤ w.heap.size + 1 + 1; omega) _
  have hne : ∀ k, k ≠ l + 1 → ((w1.setCell ⟨w.heap.size + 1 + 1, 0, none⟩ v').putObj (l + 1) (.loop r)).heap[k]? = _ := fun k hk => World.putObj_heap_other hk
  refine ⟨ml, CH.busy (r := rb) ⟨(m _ (by omega)).trans ((hlow _ (by omega)).trans h.r0), (m _ (by omega)).trans ((hlow _ (by omega)).trans h.r1), ⟨v', set_one g0 _, ?_, ?_⟩, ml, (m _ (by omega)).trans ((hlow _ (by omega)).trans h.def_), hbw, by rw [set_sz]; omega, h.nb, h.nl, fun k hk => by rw [set_sz]; exact Nat.lt_of_lt_of_le (h.hp k hk) hs1⟩ hl he, ?_, ?_⟩
  · have : OwnN w1 e0 v' (ss ++ [t]) := by
      unfold OwnN
      rw [List.map_append, List.length_append]
      exact hown
    exact this.same fun g o hg ho => (m g (by omega)).trans ho
  · intro k hk hp
    rcases hat with e | e
    · exact hn k (e.symm.trans hk) hp
    · rw [e] at hk
      injection hk with hk
      have := h.hp k hp
      simp at hk
      omega
  · intro k hk hp
    have hk1 : k ≠ l + 1 := fun e => h.nl (e ▸ hp)
    have hk2 : k ≠ w.heap.size + 1 + 1 := fun e => h.nb (e ▸ hp)
    exact (hne k hk1).trans ((m k hk2).trans ((hg.block k (by simp; omega) (fun e => hn k e.symm hp)).trans (Below.heap_alloc _ _ _ hk)))
  · rw [World.putObj_size, set_sz]; exact hs1
end
/-- What Chain tells: the row, the error. -/
def AnsH (L : Row) (x : Tx) (w : World) (e : Ending) (W' : World) : Prop := ∃ v, e = .returned (.tuple #[v, .int .i64 ((chain L x).2 : Int)]) ∧ OwnN W' w.heap.size v (chain L x).1
theorem res14 (tmps : Array Value) (W : World) (n : Nat) (v : Value) (c : Int) (h4 : tmps.getD 4 undef = .pointer (some ⟨n, 0, none⟩)) (h5 : tmps.getD 5 undef = .pointer (some ⟨n + 1, 0, none⟩))
    (hc4 : W.cell? ⟨n, 0, none⟩ = some v) (hc5 : W.cell? ⟨n + 1, 0, none⟩ = some (.int .i64 c)) (h1 : ∃ ao n c, v = .slice ao n c) :
    (results Tryz.f14 tmps).run Tryz.prog W = .ok (.tuple #[v, .int .i64 c]) W := by
  have h4' : tmps[4]?.getD undef = .pointer (some ⟨n, 0, none⟩) := by rw [← h4]; simp
  have h5' : tmps[5]?.getD undef = .pointer (some ⟨n + 1, 0, none⟩) := by rw [← h5]; simp
  obtain ⟨ao, n', c', rfl⟩ := h1
  simp [results, Tryz.results14, asAddr, loadVar, Sem.run_bind, Result.andThen, go_sem, h4', h5', hc4, hc5]
def fsT (L : Row) (x : Tx) (i : Nat) : List Tx := ((steps L x).take i).map (·.1)
def okT (L : Row) (x : Tx) (i : Nat) : Prop := ∀ p ∈ (steps L x).take i, p.2 = 0
def JC (L : Row) (x : Tx) (w : World) (l e0 : Nat) (r : Loop) (i : Nat) (P : Nat → Prop) (A : World) : Prop := CH w l e0 r (fsT L x i) P A ∧ okT L x i
def SC (L : Row) (x : Tx) (w : World) (l _i : Nat) (A : World) : Prop := ∃ c : Nat, CS w l (c : Int) A ∧ c ≠ 0 ∧ ∃ p ∈ steps L x, p.2 = c
theorem fsT_succ {L : Row} {x : Tx} {i : Nat} (hi : i < (steps L x).length) : fsT L x (i + 1) = fsT L x i ++ [(steps L x)[i].1] := by
  unfold fsT
  rw [List.take_succ_eq_append_getElem hi, List.map_append]
  rfl
theorem okT_succ {L : Row} {x : Tx} {i : Nat} (hi : i < (steps L x).length) (h : okT L x i) (h0 : (steps L x)[i].2 = 0) : okT L x (i + 1) := by
  intro p hp
  rw [List.take_succ_eq_append_getElem hi] at hp
  rcases List.mem_append.1 hp with hp | hp
  · exact h p hp
  · rw [List.mem_singleton.1 hp]; exact h0
theorem fsT_len (L : Row) (x : Tx) (i : Nat) : (fsT L x i).length ≤ 8 := by
  unfold fsT
  rw [List.length_map, List.length_take]
  have := steps_few L x
  omega
set_option maxRecDepth 100000 in
set_option maxHeartbeats 4000000 in
theorem chain_in {w : World} {a : Nat} {mb : Option Nat} {L : Row} (h : FO w a mb L) (x : Tx) (hx : x.length ≤ 9223372036854775807) (hA : AF w) :
    CallsIn Fence.wide 6 Tryz.prog 14 #[.pointer (some ⟨a, 0, none⟩), tx x] w fun e W' => AnsH L x w e W' ∧ Below w.heap.size w W' := by
  obtain ⟨i0, hi0, hz0, hz1, hz2⟩ := info_parts9 info9N
  have hmk := fun W => steps_make a x W
  have HSC := hide (steps_chain L x)
  have HSL := hide (steps_len h x)
  have HF8 := hide (steps_few L x)
  have HH := hide h
  have HA := hide hA
  have hlt := h.lt
  have hmlt : ∀ b, mb = some b → b < w.heap.size := fun b e => by have := h.map; rw [e] at this; exact this.lt
  have hz := AF.pos hA
  clear h hA
  unfold tx at *
  refine callsIn_of_wp_marks Tryz.func14 rfl trivial ?_ rfl
  simp only [Tryz.ntmps14, List.size_toArray, List.length_cons, List.length_nil, Nat.reduceAdd, Nat.reduceSub, Array.replicate_succ, Array.replicate_zero, List.push_toArray, List.append_toArray, List.nil_append, List.cons_append]
  gi_wp2_with fail
  have a1 := al1 w (.cells #[.slice none 0 0] 30)
  have k1 := heap_alloc_new w (.cells #[.slice none 0 0] 30)
  have s1 := World.size_alloc w (.cells #[.slice none 0 0] 30)
  obtain ⟨X1, hX1⟩ : ∃ X1, w.alloc (.cells #[.slice none 0 0] 30) = X1 := ⟨_, rfl⟩
  rw [hX1] at a1 k1 s1 ⊢
  have a2 := al1 X1 (.cells #[.int .i64 0] 26)
  have k2 := heap_alloc_new X1 (.cells #[.int .i64 0] 26)
  have s2 := World.size_alloc X1 (.cells #[.int .i64 0] 26)
  obtain ⟨X2, hX2⟩ : ∃ X2, X1.alloc (.cells #[.int .i64 0] 26) = X2 := ⟨_, rfl⟩
  rw [hX2] at a2 k2 s2 ⊢
  have a3 := al1 X2 (.cells #[.slice none 0 0] 30)
  have k3 := heap_alloc_new X2 (.cells #[.slice none 0 0] 30)
  have s3 := World.size_alloc X2 (.cells #[.slice none 0 0] 30)
  obtain ⟨X3, hX3⟩ : ∃ X3, X2.alloc (.cells #[.slice none 0 0] 30) = X3 := ⟨_, rfl⟩
  rw [hX3] at a3 k3 s3 ⊢
  refine ⟨trivial, (callsIn_wide.2 (hmk X3)).mono ?_⟩
  rintro e X5 ⟨rfl, hX5⟩
  have a4 := al1 X3 (.cells #[.pointer (some ⟨a, 0, none⟩)] 24)
  have k4 := heap_alloc_new X3 (.cells #[.pointer (some ⟨a, 0, none⟩)] 24)
  have s4 := World.size_alloc X3 (.cells #[.pointer (some ⟨a, 0, none⟩)] 24)
  generalize X3.alloc (.cells #[.pointer (some ⟨a, 0, none⟩)] 24) = X4 at *
  have a5 := al1 X4 (.cells #[.string ⟨x.toArray⟩] 9)
  have k5 := heap_alloc_new X4 (.cells #[.string ⟨x.toArray⟩] 9)
  have s5 := World.size_alloc X4 (.cells #[.string ⟨x.toArray⟩] 9)
  rw [← hX5] at a5 k5 s5
  rw [s1] at k2 s2
  rw [s2] at k3 s3
  rw [s3] at k4 s4
  rw [s4] at k5 s5
  have bX := nx a1 (nx a2 (nx a3 (nx a4 a5)))
  have m0 := ((nx a2 (nx a3 (nx a4 a5))).block _ (by omega)).trans k1
  have m1 := ((nx a3 (nx a4 a5)).block _ (by omega)).trans k2
  have m2 := ((nx a4 a5).block _ (by omega)).trans k3
  have m3 := (a5.block _ (by omega)).trans k4
  simp only [s3]
  have HS5 := hide s5
  clear hX1 hX2 hX3 hX5 a1 a2 a3 a4 a5 k1 k2 k3 k4 s1 s2 s3 s4 s5 hmk
  gi_wp2
  refine enter3 (gf := 52) (lb := #[.pointer (some ⟨w.heap.size + 1 + 1 + 1, 0, none⟩), .pointer (some ⟨w.heap.size + 1 + 1 + 1 + 1, 0, none⟩)]) rfl (enters_of Tryz.func52 (by kernel_rfl) rfl) ?_
  intro r We hr hrec hdef hszE hbE
  have h5 : X5.heap.size = w.heap.size + 1 + 1 + 1 + 1 + 1 := HS5.out
  have hl2 : w.heap.size + 1 + 1 < X5.heap.size := by omega
  have hle : X5.heap.size + 2 ≤ We.heap.size := by omega
  have bE := nx bX hbE
  have hBs : Bs a mb L (w.heap.size + 1 + 1 + 1) (w.heap.size + 1 + 1 + 1 + 1) x We := ⟨HH.out.later bE, HA.out.later bE, (hbE.block _ (by omega)).trans m3, (hbE.block _ (by omega)).trans k5⟩
  have hbk : ∀ k, Bk a mb (w.heap.size + 1 + 1 + 1) (w.heap.size + 1 + 1 + 1 + 1) k → k < w.heap.size ∨ k = w.heap.size + 1 + 1 + 1 ∨ k = w.heap.size + 1 + 1 + 1 + 1 := by
    rintro k (rfl | hk | rfl | rfl | rfl)
    · exact .inl hlt
    · exact .inl (hmlt k hk)
    · exact .inl hz
    · exact .inr (.inl rfl)
    · exact .inr (.inr rfl)
  refine (steps1_in 5 (by omega) hx (X5.heap.size + 1)
    (JC L x w X5.heap.size We.heap.size r) (SC L x w X5.heap.size) (Bk a mb (w.heap.size + 1 + 1 + 1) (w.heap.size + 1 + 1 + 1 + 1)) We hBs (fun _ h => h) ?stable ?round ?start).mono ?_
  case stable =>
    rintro i P P' A B ⟨h1, h2⟩ hb hp
    exact ⟨h1.thr hl2 hle hb hp, h2⟩
  case start =>
    refine ⟨⟨(hbE.block _ (by omega)).trans m0, (hbE.block _ (by omega)).trans m1, ⟨_, (hbE.block _ (by omega)).trans m2, ownN_nil _ _, fun k e => by simp [Value.ownBlock] at e⟩, hrec.out, hdef.out, bE, Nat.le_refl _, fun hn => ?_, fun hn => ?_, fun k hk => ?_⟩, fun p hp => by cases hp⟩
    · rcases hbk _ hn with h | h | h <;> omega
    · rcases hbk _ hn with h | h | h <;> omega
    · rcases hbk _ hk with h | h | h <;> omega
  case round =>
    rintro i hi P A ⟨hCH, hok⟩
    have htl := HSL.out (steps L x)[i] (List.getElem_mem hi)
    have HT : Hid (fsT L x (i + 1) = fsT L x i ++ [(steps L x)[i].1] ∧ ((steps L x)[i].2 = 0 → okT L x (i + 1)) ∧ (steps L x)[i] ∈ steps L x) := hide ⟨fsT_succ hi, fun h0 => okT_succ hi hok h0, List.getElem_mem hi⟩
    have hfew := fsT_len L x i
    generalize (steps L x)[i] = pr at *
    obtain ⟨t, er⟩ := pr
    simp only at htl HT ⊢
    generalize fsT L x i = ss at *
    clear hrec hdef hszE hbE bE bX k5 m0 m1 m2 m3 h5 hBs hbk hok
    generalize X5.heap.size = l at *
    generalize We.heap.size = e0 at *
    have j5 := hCH.rec_
    refine yield3 hr j5 rfl ?_
    gi_wp2
    intro rb
    have hC1 := hCH.busy (rb := rb) hl2 hle
    have HK0 : Hid (∀ k, k < A.heap.size → P k → (A.putObj (l + 1) (.loop rb)).heap[k]? = A.heap[k]?) := hide (fun k _ hp => World.putObj_heap_other (fun e => hCH.nl (e ▸ hp)))
    have HK1 : Hid ((A.putObj (l + 1) (.loop rb)).heap.size = A.heap.size) := hide World.putObj_size
    clear hCH j5 hr
    generalize A.putObj (l + 1) (.loop rb) = A1 at *
    by_cases her : er = 0
    · subst her
      have HOK : Hid (okT L x (i + 1)) := hide (HT.out.2.1 rfl)
      simp only [show ((0 : Nat) : Int) = 0 from rfl]
      obtain ⟨v, hv, hO, hno⟩ := hC1.own
      have hPz : w.heap.size + 1 + 1 < A1.heap.size := (Array.getElem?_eq_some_iff.1 hv).1
      gi_wp2
      refine Rst.startR 5 (fun w' => w'.heap[w.heap.size + 1 + 1]? = some (.cells #[v] 30)) (by kernel_rfl) (by kernel_rfl) (by rintro ⟨_, _, h⟩; exact h) ?_
      refine Rst.take (fun _ _ _ _ _ h => h) 0 _ 17 v rfl (by kernel_rfl) rfl (by kernel_rfl) (by kernel_rfl) hv (fun w' hw => Reg.ldS rfl rfl (cell_one hw) (Tryz.isAgg30 _)) ?_
      refine Rst.take (fun _ _ _ _ _ h => h) 1 _ 18 (tx t) rfl (by kernel_rfl) rfl (by kernel_rfl) (by kernel_rfl) hv (fun w' hw => by kernel_rfl) ?_
      refine Rst.call 2 _ 19 28 _ _ #[tx t] rfl (by kernel_rfl) rfl (by kernel_rfl) (by kernel_rfl) rfl (by kernel_rfl) (by kernel_rfl) (clone_any ⟨t.toArray⟩ (by rw [sz_tx]; omega) A1.drew) ?_
      rintro e w5 ⟨rfl, hb5⟩
      have hb5' : Below A1.heap.size A1 w5 := (Below.refl A1.heap.size A1).drew.trans hb5
      have hC5 := hC1.grow hl2 hle hb5'
      have hO5 := hO.later hb5'
      have p5 := (hb5'.block _ hPz).trans hv
      refine ⟨_, rfl, p5, ?_⟩
      have le5 := hC5.le
      have a6 := al1 w5 (.cells #[tx t] 9)
      refine Rst.only 3 _ 20 rfl (by kernel_rfl) rfl (by kernel_rfl) (by kernel_rfl) ⟨.slice (some ⟨w5.heap.size, 0, none⟩) 1 1, w5.alloc (.cells #[tx t] 9), Reg.bs (vs := #[(0, tx t)]) (cs := #[tx t]) i0 (.string ByteArray.empty) rfl (by kernel_rfl) Tryz.underlying30 hi0 hz0 (by rw [hz1]; decide) (by rw [hz1]; decide) (by rw [hz1]; kernel_rfl), (a6.block _ (Array.getElem?_eq_some_iff.1 p5).1).trans p5, ?_⟩
      have o6 : OwnN (w5.alloc (.cells #[tx t] 9)) e0 v ss := hO5.later a6
      obtain ⟨v', w7, hrun, hown, hgrow, _, hat⟩ := run_append_own_at (P := Tryz.prog) (w5.alloc (.cells #[tx t] 9)) e0 30 30 9 i0 (.string ByteArray.empty) 1 16 Tryz.underlying30 hi0 hz0 hz1 hz2 rfl (by decide) v ss.length (ss.map tx) o6 ⟨w5.heap.size, 0, none⟩ 1 1 [tx t] rfl (one_new _ _ _) (by simp [Value.oneCell']) (by unfold maxLen; omega) (by omega) (by simp; omega)
      have p7 : w7.heap[w.heap.size + 1 + 1]? = some (.cells #[v] 30) := (hgrow.block _ (by simp; have := (Array.getElem?_eq_some_iff.1 p5).1; omega) (fun e => by have := hO5.block _ e.symm; omega)).trans ((Below.heap_alloc _ _ _ (Array.getElem?_eq_some_iff.1 p5).1).trans p5)
      refine Rst.only 4 _ 21 rfl (by kernel_rfl) rfl (by kernel_rfl) (by kernel_rfl) ⟨v', w7, Reg.app rfl rfl rfl hrun, p7, ?_⟩
      obtain ⟨g', cap', rfl⟩ := ownsRow_succ hown
      have fin := hC5.next (r := r) hl2 hle p5 hO5 hno hown hgrow hat
      refine Rst.last _ rfl (by kernel_rfl) rfl (by kernel_rfl) (by kernel_rfl) ⟨_, Reg.st1 rfl rfl rfl (cell_one p7) (froz_one p7) (.inr ⟨_, _, _, rfl⟩) (Tryz.sizeOf30 _), ?_⟩
      refine Rst.done (by kernel_rfl) ?_
      have hsz5 := hb5'.size
      have hsz1 := HK1.out
      refine ⟨fin.1, .inl ⟨rfl, ⟨by rw [HT.out.1]; exact fin.2.1, HOK.out⟩, fun k hk hp => (fin.2.2.1 k (by omega) hp).trans ((hb5'.block k (by omega)).trans (HK0.out k hk hp)), Nat.le_trans (by omega) fin.2.2.2⟩⟩
    · have g1 : ((er : Int) == 0) = false := by simp; omega
      have HS := hide (hC1.stop hl2 (er : Int))
      have HMM : Hid (∃ p ∈ steps L x, p.2 = er) := hide ⟨_, HT.out.2.2, rfl⟩
      have c0 := cell_one hC1.r0
      have c1 := cell_one hC1.r1
      have f0 := froz_one hC1.r0
      have f1 := froz_one hC1.r1
      have HNE := hide her
      clear hC1 her
      gi_wp2
      exact ⟨HS.out.1, fun rd e1 e2 => .inr ⟨rfl, er, HS.out.2 rd e1 e2, HNE.out, HMM.out⟩⟩
  rintro e W' ⟨hv, hres⟩
  refine ⟨hv, ?_⟩
  rcases hres with ⟨P, hCH, hok⟩ | ⟨i, hi, c, hCS, hc0, hcm⟩
  · have HE : Hid ((chain L x).2 = 0 ∧ fsT L x (steps L x).length = (chain L x).1) := hide (by
      rcases HSC.out with ⟨h1, h2⟩ | ⟨h1, _, ss, h2⟩
      · refine ⟨h1, ?_⟩
        unfold fsT
        rw [List.take_length, h2, List.map_map]
        exact List.map_id _
      · exact absurd (hok ([], (chain L x).2) (by rw [List.take_length, h2]; simp)) h1)
    refine .inl ⟨hCH.rec_, fun r' => ?_⟩
    have hC1 := hCH.busy (rb := r') hl2 hle
    rw [HE.out.2] at hC1
    clear hCH hok hrec hdef hszE hbE k5 m0 m1 m2 m3 hr HSC HSL hBs hbk
    generalize W'.putObj (X5.heap.size + 1) (.loop r') = W9 at *
    obtain ⟨v, hv, hO, _⟩ := hC1.own
    have c2 := cell_one hv
    have c0 := cell_one hC1.r0
    have f0 := froz_one hC1.r0
    have q1 := (set_ne (W := W9) (b := w.heap.size) (k := w.heap.size + 1) v (by omega)).trans hC1.r1
    have c1 := cell_one hC1.r1
    have f1 := froz_one hC1.r1
    have q2 := cell_one q1
    have q3 := froz_one q1
    have p0 : ((W9.setCell ⟨w.heap.size, 0, none⟩ v).setCell ⟨w.heap.size + 1, 0, none⟩ (.int .i64 0)).heap[w.heap.size]? = some (.cells #[v] 30) := (set_ne _ (by omega)).trans (set_one hC1.r0 _)
    have p1 := set_one q1 (.int .i64 0)
    have p2 : ((W9.setCell ⟨w.heap.size, 0, none⟩ v).setCell ⟨w.heap.size + 1, 0, none⟩ (.int .i64 0)).heap[X5.heap.size]? = some (.deferred (some [])) := (set_ne _ (by omega)).trans ((set_ne _ (by omega)).trans hC1.def_)
    have p3 : Below w.heap.size w ((W9.setCell ⟨w.heap.size, 0, none⟩ v).setCell ⟨w.heap.size + 1, 0, none⟩ (.int .i64 0)) := (hC1.below.setCell (p := ⟨w.heap.size, 0, none⟩) (Nat.le_refl _) _).setCell (p := ⟨w.heap.size + 1, 0, none⟩) (by show w.heap.size ≤ w.heap.size + 1; omega) _
    have p4 : OwnN ((W9.setCell ⟨w.heap.size, 0, none⟩ v).setCell ⟨w.heap.size + 1, 0, none⟩ (.int .i64 0)) We.heap.size v (chain L x).1 := hO.same fun g o hg ho => (set_ne _ (by omega)).trans ((set_ne _ (by omega)).trans ho)
    obtain ⟨ao, cap, rfl, _, _⟩ := hO.rd
    have P0 := hide p0
    have P1 := hide p1
    have P3 := hide p3
    have P4 := hide p4
    clear hC1 hv hO q1 p0 p1 p3 p4
    gi_wp2
    refine ⟨by simp, .inl ⟨_, _, rfl, run_takeDeferred p2, ?_⟩⟩
    refine ⟨_, res14 _ _ w.heap.size _ 0 rfl rfl (cell_one ((World.putObj_heap_other (by omega)).trans P0.out)) (cell_one ((World.putObj_heap_other (by omega)).trans P1.out)) ⟨_, _, _, rfl⟩, ?_, P3.out.trans (below_put _ _ (by omega))⟩
    exact ⟨_, by rw [HE.out.1]; rfl, (P4.out.same fun g o hg ho => (World.putObj_heap_other (by omega)).trans ho).low (by omega)⟩
  · have HE : Hid ((chain L x).2 = c ∧ (chain L x).1 = []) := hide (by
      obtain ⟨p, hp, hpc⟩ := hcm
      rcases HSC.out with ⟨h1, h2⟩ | ⟨h1, h2, ss, h3⟩
      · rw [h2] at hp
        obtain ⟨t, _, rfl⟩ := List.mem_map.1 hp
        exact absurd hpc.symm hc0
      · refine ⟨?_, h2⟩
        rw [h3] at hp
        rcases List.mem_append.1 hp with hp | hp
        · obtain ⟨t, _, rfl⟩ := List.mem_map.1 hp
          exact absurd hpc.symm hc0
        · rw [List.mem_singleton.1 hp] at hpc; exact hpc)
    obtain ⟨rd, e1, e2, j2⟩ := hCS.rec_
    refine .inr ⟨rd, e1, e2, j2, fun r' => ?_⟩
    have hnp : ∀ k, k ≠ X5.heap.size + 1 → (W'.putObj (X5.heap.size + 1) (.loop r')).heap[k]? = W'.heap[k]? := fun k hk => World.putObj_heap_other hk
    have k0 := (hnp _ (by omega)).trans hCS.r0
    have k1 := (hnp _ (by omega)).trans hCS.r1
    have k4 := (hnp _ (by omega)).trans hCS.def_
    have b9 := hCS.below.trans (below_put (n := w.heap.size) W' (.loop r') (show w.heap.size ≤ X5.heap.size + 1 by omega))
    clear hnp j2 hCS hrec hdef hszE hbE k5 m0 m1 m2 m3 hr HSC HSL hBs hbk hcm
    generalize W'.putObj (X5.heap.size + 1) (.loop r') = W9 at *
    gi_wp2
    refine ⟨by simp, .inl ⟨_, _, rfl, run_takeDeferred k4, ?_⟩⟩
    refine ⟨_, res14 _ _ w.heap.size _ (c : Int) rfl rfl (cell_one ((World.putObj_heap_other (by omega)).trans k0)) (cell_one ((World.putObj_heap_other (by omega)).trans k1)) ⟨_, _, _, rfl⟩, ⟨_, by rw [HE.out.1], by rw [HE.out.2]; exact ownN_nil _ _⟩, b9.trans (below_put _ _ (by omega))⟩
theorem chain_any {w : World} {a : Nat} {mb : Option Nat} {L : Row} (h : FO w a mb L) (x : Tx) (hx : x.length ≤ 9223372036854775807) (hA : AF w) :
    Calls Tryz.prog 14 #[.pointer (some ⟨a, 0, none⟩), tx x] w fun e W' => AnsH L x w e W' ∧ Below w.heap.size w W' := callsIn_wide.1 (chain_in h x hx hA)
end C
end Go.Proofs.YtbeihgjonhgfmaaGreatDoor
