/- Canon of tag. -/
import Derived.Maps.AppendAt
import Derived.Maps.OwnIn
import Derived.Test.YtbeihgjonhgfmaaGreatDoorTgf
import Derived.Test.YtbeihgjonhgfmaaGreatDoorTgi
namespace Go.Proofs.YtbeihgjonhgfmaaGreatDoor
open Go.RowKit Go.Shelf
attribute [local go_sem] Oper.semAt_some

theorem below_put {n k : Nat} (W : World) (o : Obj) (h : n ≤ k) : Below n W (W.putObj k o) :=
  ⟨rfl, rfl, rfl, by rw [World.putObj_size]; exact Nat.le_refl _, fun j hj => World.putObj_heap_other (by omega)⟩
theorem set_one {W : World} {b : Nat} {v : Value} {T : TypeId} (h : W.heap[b]? = some (.cells #[v] T)) (u : Value) : (W.setCell ⟨b, 0, none⟩ u).heap[b]? = some (.cells #[u] T) := by
  simp [World.setCell, Array.getElem?_modify, h]
theorem cell_one {W : World} {b : Nat} {v : Value} {T : TypeId} (h : W.heap[b]? = some (.cells #[v] T)) : W.cell? ⟨b, 0, none⟩ = some v := by simp [World.cell?, h]
theorem froz_one {W : World} {b : Nat} {v : Value} {T : TypeId} (h : W.heap[b]? = some (.cells #[v] T)) : W.frozen? ⟨b, 0, none⟩ = false := by simp [World.frozen?, h]
theorem set_ne {W : World} {b k : Nat} (u : Value) (h : k ≠ b) : (W.setCell ⟨b, 0, none⟩ u).heap[k]? = W.heap[k]? := Below.heap_setCell W ⟨b, 0, none⟩ u k h
theorem set_sz (W : World) (b : Nat) (u : Value) : (W.setCell ⟨b, 0, none⟩ u).heap.size = W.heap.size := by simp [World.setCell]
/-- A row of texts that the call itself made. -/
def OwnN (w : World) (B : Nat) (v : Value) (ss : List (List UInt8)) : Prop := w.ownsRow B 9 1 v ss.length (ss.map tx)
theorem ownN_nil (w : World) (B : Nat) : OwnN w B (.slice none 0 0) [] := World.ownsRow_nil w _ _ _
theorem OwnN.same {w w' : World} {B : Nat} {v : Value} {ss : List (List UInt8)} (h : OwnN w B v ss) (hs : ∀ (g : Nat) (o : Obj), B ≤ g → w.heap[g]? = some o → w'.heap[g]? = some o) : OwnN w' B v ss := by
  obtain ⟨h1, h2 | ⟨g, cap, cur, rfl, h3, h4, h5⟩⟩ := h
  · exact ⟨h1, .inl h2⟩
  · exact ⟨h1, .inr ⟨g, cap, cur, rfl, h3, hs g _ h3 h4, h5⟩⟩
theorem OwnN.later {w w' : World} {B : Nat} {v : Value} {ss : List (List UInt8)} (h : OwnN w B v ss) (hb : Below w.heap.size w w') : OwnN w' B v ss :=
  h.same fun g _ _ hg => (hb.block g (Array.getElem?_eq_some_iff.1 hg).1).trans hg
theorem OwnN.low {w : World} {B B' : Nat} {v : Value} {ss : List (List UInt8)} (h : OwnN w B v ss) (hb : B' ≤ B) : OwnN w B' v ss := by
  obtain ⟨h1, h2 | ⟨g, cap, cur, rfl, h3, h4⟩⟩ := h
  · exact ⟨h1, .inl h2⟩
  · exact ⟨h1, .inr ⟨g, cap, cur, rfl, Nat.le_trans hb h3, h4⟩⟩
theorem OwnN.block {w : World} {B : Nat} {v : Value} {ss : List (List UInt8)} (h : OwnN w B v ss) : ∀ k, v.ownBlock = some k → B ≤ k := by
  intro g hg
  obtain ⟨_, ⟨rfl, _⟩ | ⟨g', cap', cur', rfl, hg', _⟩⟩ := h
  · simp [Value.ownBlock] at hg
  · simp [Value.ownBlock] at hg; omega
theorem OwnN.rd {w : World} {B : Nat} {v : Value} {ss : List (List UInt8)} (h : OwnN w B v ss) : ∃ ao cap, v = .slice ao ss.length cap ∧ ss.length ≤ cap ∧ RdT w ao ss := by
  obtain ⟨_, h | ⟨g, cap, cur, rfl, _, hg, hle, _, hsz, hxs⟩⟩ := h
  · obtain ⟨rfl, hn⟩ := h
    have : ss = [] := List.eq_nil_of_length_eq_zero hn
    subst this
    exact ⟨none, 0, rfl, Nat.le_refl _, fun i hi => by simp at hi⟩
  · refine ⟨_, cap, rfl, hle, fun i hi => ⟨g, 0, rfl, (Array.getElem?_eq_some_iff.1 hg).1, ?_⟩⟩
    simp only [World.cell?, hg, Nat.zero_add]
    have h1 : (cur.toList.take (ss.length * 1))[i]? = (ss.map tx)[i]? := by rw [hxs]
    rw [List.getElem?_take, if_pos (by omega)] at h1
    simpa [hi] using h1
theorem RdT.later {w w' : World} {ao : Option Addr} {ss : List (List UInt8)} (h : RdT w ao ss) (hb : Below w.heap.size w w') : RdT w' ao ss := fun i hi =>
  let ⟨b, off, e, h1, h2⟩ := h i hi
  ⟨b, off, e, Nat.lt_of_lt_of_le h1 hb.size, cell_later hb h2⟩
theorem info9N : (Tryz.prog.info? 9).map (fun i => (i.zero, i.size, i.bytes)) = some (some (.string ByteArray.empty), 1, 16) := by kernel_rfl
theorem info_parts9 {e : TypeId} {z : Value} {n k : Nat} (h : (Tryz.prog.info? e).map (fun i => (i.zero, i.size, i.bytes)) = some (some z, n, k)) : ∃ i, Tryz.prog.info? e = some i ∧ i.zero = some z ∧ i.size = n ∧ i.bytes = k := by
  cases hi : Tryz.prog.info? e with
  | none => rw [hi] at h; cases h
  | some i =>
    rw [hi] at h
    simp at h
    exact ⟨i, rfl, h.1, h.2.1, h.2.2⟩
theorem one_new (w : World) (x : Value) (t : TypeId) : ∀ j u, [x][j]? = some u → (w.alloc (.cells #[x] t)).cell? ((⟨w.heap.size, 0, none⟩ : Addr).add j) = some u := by
  intro j u hj
  rw [Addr.add_mid]
  match j, hj with
  | 0, hj => simp at hj; subst hj; exact cell_one (heap_alloc_new w _)
  | j + 1, hj => simp at hj
/-- Canon's memory between the rounds. -/
structure CO (w : World) (P l e0 : Nat) (r : Loop) (k : Nat) (ss : List (List UInt8)) (A : World) : Prop where
  r0 : A.heap[w.heap.size]? = some (.cells #[.string ⟨#[]⟩] 9)
  r1 : A.heap[w.heap.size + 1]? = some (.cells #[.int .i64 0] 26)
  own : ∃ v, A.heap[P]? = some (.cells #[v] 30) ∧ OwnN A e0 v ss
  last : A.heap[P + 1]? = some (.cells #[.int .i64 (k : Int)] 3)
  rec_ : A.heap[l + 1]? = some (.loop r)
  def_ : A.heap[l]? = some (.deferred (some []))
  below : Below w.heap.size w A
  le : e0 ≤ A.heap.size
/-- Canon's memory where it has left the rounds. -/
def CStop (w : World) (l : Nat) (A : World) : Prop :=
  A.heap[w.heap.size]? = some (.cells #[.string ⟨#[]⟩] 9) ∧ A.heap[w.heap.size + 1]? = some (.cells #[.int .i64 100] 26) ∧ (∃ rd : Loop, rd.state = .done ∧ rd.pending = some .ret ∧ A.heap[l + 1]? = some (.loop rd)) ∧ A.heap[l]? = some (.deferred (some [])) ∧ Below w.heap.size w A
section
variable {w : World} {P l e0 : Nat} {r rb : Loop} {k : Nat} {ss : List (List UInt8)} {A : World}
theorem CO.grow (h : CO w P l e0 r k ss A) {B : World} (hb : Below A.heap.size A B) : CO w P l e0 r k ss B := by
  obtain ⟨h0, h1, ⟨v, h2, h2'⟩, h3, h4, h5, h7, h8⟩ := h
  have hk : ∀ (i : Nat) (o : Obj), A.heap[i]? = some o → B.heap[i]? = some o := fun i o hi => (hb.block i (Array.getElem?_eq_some_iff.1 hi).1).trans hi
  exact ⟨hk _ _ h0, hk _ _ h1, ⟨v, hk _ _ h2, h2'.later hb⟩, hk _ _ h3, hk _ _ h4, hk _ _ h5, nx h7 hb, Nat.le_trans h8 hb.size⟩
theorem CO.busy (h : CO w P l e0 r k ss A) (hP : w.heap.size + 1 < P) (hl : P + 1 < l) (he : l + 2 ≤ e0) : CO w P l e0 rb k ss (A.putObj (l + 1) (.loop rb)) := by
  obtain ⟨h0, h1, ⟨v, h2, h2'⟩, h3, h4, h5, h7, h8⟩ := h
  have hne : ∀ k, k ≠ l + 1 → (A.putObj (l + 1) (.loop rb)).heap[k]? = A.heap[k]? := fun k hk => World.putObj_heap_other hk
  exact ⟨(hne _ (by omega)).trans h0, (hne _ (by omega)).trans h1, ⟨v, (hne _ (by omega)).trans h2, h2'.same fun g o hg ho => (hne g (by omega)).trans ho⟩, (hne _ (by omega)).trans h3, World.putObj_heap_same (Array.getElem?_eq_some_iff.1 h4).1, (hne _ (by omega)).trans h5, h7.trans (below_put _ _ (by omega)), by rw [World.putObj_size]; exact h8⟩
theorem CO.stop (h : CO w P l e0 rb k ss A) (hP : w.heap.size + 1 < P) (hl : P + 1 < l) :
    ((A.setCell ⟨w.heap.size, 0, none⟩ (.string ⟨#[]⟩)).setCell ⟨w.heap.size + 1, 0, none⟩ (.int .i64 100)).heap[l + 1]? = some (.loop rb) ∧
    ∀ rd : Loop, rd.state = .done → rd.pending = some .ret → CStop w l (((A.setCell ⟨w.heap.size, 0, none⟩ (.string ⟨#[]⟩)).setCell ⟨w.heap.size + 1, 0, none⟩ (.int .i64 100)).putObj (l + 1) (.loop rd)) := by
  obtain ⟨h0, h1, ⟨v, h2, h2'⟩, h3, h4, h5, h7, h8⟩ := h
  have m0 : (A.setCell ⟨w.heap.size, 0, none⟩ (.string ⟨#[]⟩)).heap[w.heap.size + 1]? = some (.cells #[.int .i64 0] 26) := (set_ne _ (by omega)).trans h1
  have m : ∀ k, k ≠ w.heap.size → k ≠ w.heap.size + 1 → ((A.setCell ⟨w.heap.size, 0, none⟩ (.string ⟨#[]⟩)).setCell ⟨w.heap.size + 1, 0, none⟩ (.int .i64 100)).heap[k]? = A.heap[k]? := fun k hk hk' => (set_ne _ hk').trans (set_ne _ hk)
  have m1 := (m (l + 1) (by omega) (by omega)).trans h4
  refine ⟨m1, fun rd e1 e2 => ?_⟩
  have hne : ∀ k, k ≠ l + 1 → (((A.setCell ⟨w.heap.size, 0, none⟩ (.string ⟨#[]⟩)).setCell ⟨w.heap.size + 1, 0, none⟩ (.int .i64 100)).putObj (l + 1) (.loop rd)).heap[k]? = _ := fun k hk => World.putObj_heap_other hk
  refine ⟨(hne _ (by omega)).trans ((set_ne _ (by omega)).trans (set_one h0 _)), (hne _ (by omega)).trans (set_one m0 _), ⟨rd, e1, e2, World.putObj_heap_same (Array.getElem?_eq_some_iff.1 m1).1⟩, (hne _ (by omega)).trans ((m l (by omega) (by omega)).trans h5), ?_⟩
  exact ((h7.setCell (p := ⟨w.heap.size, 0, none⟩) (Nat.le_refl _) _).setCell (p := ⟨w.heap.size + 1, 0, none⟩) (by show w.heap.size ≤ w.heap.size + 1; omega) _).trans (below_put _ _ (by omega))
/-- What is below the rows stays as it lies. -/
theorem CO.low (h : CO w P l e0 r k ss A) {v : Value} (hv : OwnN A e0 v ss) {tmp : Obj} {w1 : World} (hg : (A.alloc tmp).grownBy w1 v.ownBlock) {i : Nat} (hi : i < e0) : w1.heap[i]? = A.heap[i]? := by
  have := h.le
  exact (hg.block i (by simp; omega) (fun e => by have := hv.block i e.symm; omega)).trans (Below.heap_alloc _ _ _ (by omega))
theorem CO.next (h : CO w P l e0 rb k ss A) (hP : w.heap.size + 1 < P) (hl : P + 1 < l) (he : l + 2 ≤ e0) {v v' : Value} {tmp : Obj} {w1 : World} {x : List UInt8} (k' : Nat) (hv : OwnN A e0 v ss)
    (hown : w1.ownsRow e0 9 1 v' (ss.length + 1) (ss.map tx ++ [tx x])) (hg : (A.alloc tmp).grownBy w1 v.ownBlock) :
    ((w1.setCell ⟨P, 0, none⟩ v').setCell ⟨P + 1, 0, none⟩ (.int .i64 (k' : Int))).heap[l + 1]? = some (.loop rb) ∧
    CO w P l e0 r k' (ss ++ [x]) (((w1.setCell ⟨P, 0, none⟩ v').setCell ⟨P + 1, 0, none⟩ (.int .i64 (k' : Int))).putObj (l + 1) (.loop r)) := by
  have hlow : ∀ i, i < e0 → w1.heap[i]? = A.heap[i]? := fun i hi => h.low hv hg hi
  have hs1 : A.heap.size ≤ w1.heap.size := Nat.le_trans (by simp) hg.size
  obtain ⟨u, p0, _⟩ := h.own
  have g0 : w1.heap[P]? = some (.cells #[u] 30) := (hlow P (by omega)).trans p0
  have g1 : w1.heap[P + 1]? = some (.cells #[.int .i64 (k : Int)] 3) := (hlow _ (by omega)).trans h.last
  have m : ∀ i, i ≠ P → i ≠ P + 1 → ((w1.setCell ⟨P, 0, none⟩ v').setCell ⟨P + 1, 0, none⟩ (.int .i64 (k' : Int))).heap[i]? = w1.heap[i]? := fun i h1 h2 => (set_ne _ h2).trans (set_ne _ h1)
  have mP : ((w1.setCell ⟨P, 0, none⟩ v').setCell ⟨P + 1, 0, none⟩ (.int .i64 (k' : Int))).heap[P]? = some (.cells #[v'] 30) := (set_ne _ (by omega)).trans (set_one g0 _)
  have mL : ((w1.setCell ⟨P, 0, none⟩ v').setCell ⟨P + 1, 0, none⟩ (.int .i64 (k' : Int))).heap[P + 1]? = some (.cells #[.int .i64 (k' : Int)] 3) := set_one ((set_ne _ (by omega)).trans g1) _
  have ml := (m (l + 1) (by omega) (by omega)).trans ((hlow _ (by omega)).trans h.rec_)
  have hle := h.le
  have hsz : ((w1.setCell ⟨P, 0, none⟩ v').setCell ⟨P + 1, 0, none⟩ (.int .i64 (k' : Int))).heap.size = w1.heap.size := by rw [set_sz, set_sz]
  have hbw : Below w.heap.size w ((w1.setCell ⟨P, 0, none⟩ v').setCell ⟨P + 1, 0, none⟩ (.int .i64 (k' : Int))) := by
    have hb := h.below
    have h1 : Below w.heap.size w w1 := ⟨hg.os.trans hb.os, hg.tape.trans hb.tape, hg.output.trans hb.output, Nat.le_trans hb.size hs1, fun i hi => (hlow i (by omega)).trans (hb.block i hi)⟩
    exact (h1.setCell (p := ⟨P, 0, none⟩) (by show w.heap.size ≤ P; omega) _).setCell (p := ⟨P + 1, 0, none⟩) (by show w.heap.size ≤ P + 1; omega) _
  refine ⟨ml, CO.busy (r := rb) ⟨(m _ (by omega) (by omega)).trans ((hlow _ (by omega)).trans h.r0), (m _ (by omega) (by omega)).trans ((hlow _ (by omega)).trans h.r1), ⟨v', mP, ?_⟩, mL, ml, (m _ (by omega) (by omega)).trans ((hlow _ (by omega)).trans h.def_), hbw, by rw [hsz]; omega⟩ hP hl he⟩
  have : OwnN w1 e0 v' (ss ++ [x]) := by
    unfold OwnN
    rw [List.map_append, List.length_append]
    exact hown
  exact this.same fun g o hg ho => (m g (by omega) (by omega)).trans ho
end
theorem res9 (tmps : Array Value) (W : World) (n : Nat) (a : ByteArray) (c : Int) (h2 : tmps.getD 2 undef = .pointer (some ⟨n, 0, none⟩)) (h3 : tmps.getD 3 undef = .pointer (some ⟨n + 1, 0, none⟩)) (hc2 : W.cell? ⟨n, 0, none⟩ = some (.string a)) (hc3 : W.cell? ⟨n + 1, 0, none⟩ = some (.int .i64 c)) :
    (results Tryz.f23 tmps).run Tryz.prog W = .ok (.tuple #[.string a, .int .i64 c]) W := by
  have h2' : tmps[2]?.getD undef = .pointer (some ⟨n, 0, none⟩) := by rw [← h2]; simp
  have h3' : tmps[3]?.getD undef = .pointer (some ⟨n + 1, 0, none⟩) := by rw [← h3]; simp
  simp [results, Tryz.results23, asAddr, loadVar, Sem.run_bind, Result.andThen, go_sem, h2', h3', hc2, hc3]
/-- What Canon tells. -/
def AnsC (s : List UInt8) (e : Ending) : Prop := (∃ t, G.canon s = some t ∧ e = .returned (.tuple #[tx t, .int .i64 0])) ∨ (G.canon s = none ∧ e = .returned (.tuple #[tx [], .int .i64 100]))
set_option maxRecDepth 100000 in
set_option maxHeartbeats 1000000 in
theorem canon_long (s : List UInt8) (hs : 40 < s.length) (hl : s.length ≤ 9223372036854775807) (w : World) : Calls Tryz.prog 23 #[tx s] w fun e W' => AnsC s e ∧ Below w.heap.size w W' := by
  have HC : Hid (G.canon s = none) := hide (by unfold G.canon; rw [if_pos hs])
  have hz := sz_tx s
  have g1 : decide ((40 : Int) < (s.length : Int)) = true := decide_eq_true (by omega)
  unfold tx
  go_enter Tryz.func23, Tryz.ntmps23
  go_wp2
  have a1 := al1 w (.cells #[.string ⟨#[]⟩] 9)
  have a2 := al1 (w.alloc (.cells #[.string ⟨#[]⟩] 9)) (.cells #[.int .i64 100] 26)
  have n1 := heap_alloc_new w (.cells #[.string ⟨#[]⟩] 9)
  have n2 := heap_alloc_new (w.alloc (.cells #[.string ⟨#[]⟩] 9)) (.cells #[.int .i64 100] 26)
  rw [World.size_alloc] at n2
  exact bodyPost_ret (v := .tuple #[tx [], .int .i64 100]) (res9 _ _ w.heap.size ⟨#[]⟩ 100 rfl rfl (cell_one ((a2.block _ (by simp)).trans n1)) (cell_one n2)) rfl ⟨.inr ⟨HC.out, rfl⟩, nx a1 a2⟩
set_option maxRecDepth 100000 in
set_option maxHeartbeats 1000000 in
theorem canon_root (s : List UInt8) (hs : s.length ≤ 40) (hr : s.map G.lo = G.rootB) (w : World) (hA : AF w) : Calls Tryz.prog 23 #[tx s] w fun e W' => AnsC s e ∧ Below w.heap.size w W' := by
  have HC : Hid (G.canon s = some G.rootB) := hide (by unfold G.canon; rw [if_neg (by omega), if_pos hr])
  have hz := sz_tx s
  have g1 : decide ((40 : Int) < (s.length : Int)) = false := decide_eq_false (by omega)
  have a1 := al1 w (.cells #[.string ⟨#[]⟩] 9)
  have a2 := al1 (w.alloc (.cells #[.string ⟨#[]⟩] 9)) (.cells #[.int .i64 0] 26)
  have n1 := heap_alloc_new w (.cells #[.string ⟨#[]⟩] 9)
  have n2 := heap_alloc_new (w.alloc (.cells #[.string ⟨#[]⟩] 9)) (.cells #[.int .i64 0] 26)
  rw [World.size_alloc] at n2
  have n1' := (a2.block _ (by simp)).trans n1
  have b2 := nx a1 a2
  have hef := efold_any ⟨s.toArray⟩ (by rw [hz]; omega) ((w.alloc (.cells #[.string ⟨#[]⟩] 9)).alloc (.cells #[.int .i64 0] 26)) (hA.later b2)
  rw [bts_tx, decide_eq_true hr] at hef
  clear a1 a2 n1 hr hA
  unfold tx
  go_enter Tryz.func23, Tryz.ntmps23
  go_wp2_with fail
  refine hef.mono ?_
  rintro e w1 ⟨rfl, hb⟩
  have m1 := (hb.block _ (Array.getElem?_eq_some_iff.1 n1').1).trans n1'
  have m2 := (hb.block _ (Array.getElem?_eq_some_iff.1 n2).1).trans n2
  have b3 := nx b2 hb
  have c1 := cell_one m1
  have c2 := cell_one m2
  have f1 := froz_one m1
  have f2 := froz_one m2
  have q1 := (set_ne (W := w1) (b := w.heap.size) (k := w.heap.size + 1) (.string ⟨#[114, 111, 111, 116]⟩) (by omega)).trans m2
  have q2 := cell_one q1
  have q3 := froz_one q1
  have q4 := (set_ne (W := w1.setCell ⟨w.heap.size, 0, none⟩ (.string ⟨#[114, 111, 111, 116]⟩)) (b := w.heap.size + 1) (k := w.heap.size) (.int .i64 0) (by omega)).trans (set_one m1 _)
  have q5 := set_one q1 (.int .i64 0)
  clear hef hb n1' n2 b2
  go_wp2
  exact bodyPost_ret (v := .tuple #[tx G.rootB, .int .i64 0]) (res9 _ _ w.heap.size ⟨#[114, 111, 111, 116]⟩ 0 rfl rfl (cell_one q4) (cell_one q5)) rfl ⟨.inl ⟨_, HC.out, rfl⟩, (b3.setCell (p := ⟨w.heap.size, 0, none⟩) (Nat.le_refl _) _).setCell (p := ⟨w.heap.size + 1, 0, none⟩) (by show w.heap.size ≤ w.heap.size + 1; omega) _⟩
theorem kind_le (k : Nat) (x : List UInt8) : G.kind k x ≤ 4 := by
  unfold G.kind
  repeat' split
  all_goals omega
theorem size_parts : ∀ (l : List UInt8), (G.cut l).length ≤ l.length + 1
  | [] => by simp [G.cut]
  | c :: l => by
    have := size_parts l
    unfold G.cut
    split
    · simp; omega
    · split
      · simp
      · rename_i h; rw [h] at this; simp at this ⊢; omega
theorem cut_lens (l : List UInt8) : ∀ x ∈ G.cut l, x.length ≤ l.length := by
  induction l with
  | nil => intro x hx; simp [G.cut] at hx; subst hx; simp
  | cons c l ih =>
    intro x hx
    unfold G.cut at hx
    split at hx
    · rcases List.mem_cons.1 hx with rfl | hx
      · simp
      · have := ih x hx; simp; omega
    · split at hx
      · simp at hx; subst hx; simp
      · rename_i y ys he
        rcases List.mem_cons.1 hx with rfl | hx
        · have := ih y (by rw [he]; simp); simp; omega
        · have := ih x (by rw [he]; simp [hx]); simp; omega
set_option maxRecDepth 100000 in
set_option maxHeartbeats 4000000 in
theorem canon_in (s : List UInt8) (hs : s.length ≤ 40) (hr0 : ¬ s.map G.lo = G.rootB) (w : World) (hA : AF w) : CallsIn Fence.wide 5 Tryz.prog 23 #[tx s] w fun e W' => AnsC s e ∧ Below w.heap.size w W' := by
  obtain ⟨i0, hi0, hz0, hz1, hz2⟩ := info_parts9 info9N
  have HC : Hid (G.canon s = (G.walk 0 [] (G.cut s)).map G.join) := hide (by unfold G.canon; rw [if_neg (by omega), if_neg hr0])
  have hz := sz_tx s
  have g1 : decide ((40 : Int) < (s.length : Int)) = false := decide_eq_false (by omega)
  have a1 := al1 w (.cells #[.string ⟨#[]⟩] 9)
  have a2 := al1 (w.alloc (.cells #[.string ⟨#[]⟩] 9)) (.cells #[.int .i64 0] 26)
  have n1 := heap_alloc_new w (.cells #[.string ⟨#[]⟩] 9)
  have n2 := heap_alloc_new (w.alloc (.cells #[.string ⟨#[]⟩] 9)) (.cells #[.int .i64 0] 26)
  rw [World.size_alloc] at n2
  have n1' := (a2.block _ (by simp)).trans n1
  have b2 := nx a1 a2
  have hef := efold_any ⟨s.toArray⟩ (by rw [hz]; omega) ((w.alloc (.cells #[.string ⟨#[]⟩] 9)).alloc (.cells #[.int .i64 0] 26)) (hA.later b2)
  rw [bts_tx, decide_eq_false hr0] at hef
  have hmk := fun W => sub_make s W
  have hcl := size_parts s
  have hcx := cut_lens s
  have HCX := hide hcx
  clear a1 a2 n1 hr0 hA hcx
  unfold tx at *
  refine callsIn_of_wp_marks Tryz.func23 rfl trivial ?_ rfl
  simp only [Tryz.ntmps23, List.size_toArray, List.length_cons, List.length_nil, Nat.reduceAdd, Nat.reduceSub, Array.replicate_succ, Array.replicate_zero, List.push_toArray, List.append_toArray, List.nil_append, List.cons_append]
  gi_wp2_with (refine ⟨trivial, ?_⟩; gi_at_call 42; refine (callsIn_wide.2 hef).mono ?_; rintro e w1 ⟨rfl, hb⟩)
  have m1 := (hb.block _ (Array.getElem?_eq_some_iff.1 n1').1).trans n1'
  have m2 := (hb.block _ (Array.getElem?_eq_some_iff.1 n2).1).trans n2
  have b3 := nx b2 hb
  have z2 : w.heap.size + 1 < w1.heap.size := (Array.getElem?_eq_some_iff.1 m2).1
  clear hef hb n1' n2 b2
  have a1 := al1 w1 (.cells #[.slice none 0 0] 30)
  have k1 := heap_alloc_new w1 (.cells #[.slice none 0 0] 30)
  have s1 := World.size_alloc w1 (.cells #[.slice none 0 0] 30)
  obtain ⟨X1, hX1⟩ : ∃ X1, w1.alloc (.cells #[.slice none 0 0] 30) = X1 := ⟨_, rfl⟩
  rw [hX1] at a1 k1 s1 ⊢
  have a2 := al1 X1 (.cells #[.int .i64 0] 3)
  have k2 := heap_alloc_new X1 (.cells #[.int .i64 0] 3)
  have s2 := World.size_alloc X1 (.cells #[.int .i64 0] 3)
  obtain ⟨X2, hX2⟩ : ∃ X2, X1.alloc (.cells #[.int .i64 0] 3) = X2 := ⟨_, rfl⟩
  rw [hX2] at a2 k2 s2 ⊢
  rw [s1] at k2
  refine ⟨trivial, (callsIn_wide.2 (hmk X2)).mono ?_⟩
  rintro e X3 ⟨rfl, hX3⟩
  have a3 := al1 X2 (.cells #[.string ⟨s.toArray⟩] 9)
  have k3 := heap_alloc_new X2 (.cells #[.string ⟨s.toArray⟩] 9)
  have s3 := World.size_alloc X2 (.cells #[.string ⟨s.toArray⟩] 9)
  rw [← hX3] at a3 k3 s3
  have kP := ((nx a2 a3).block _ (by omega)).trans k1
  have kL := (a3.block _ (by omega)).trans k2
  have bX := nx b3 (nx a1 (nx a2 a3))
  have m1' := ((nx a1 (nx a2 a3)).block _ (by omega)).trans m1
  have m2' := ((nx a1 (nx a2 a3)).block _ (by omega)).trans m2
  have hsz : X3.heap.size = w1.heap.size + 3 := by omega
  have hP2 : X2.heap.size = w1.heap.size + 2 := by omega
  rw [hP2] at k3
  simp only [hP2]
  have HSZ := hide hsz
  clear hX1 hX2 hX3 a1 a2 a3 k1 k2 s1 s2 s3 m1 m2 b3 hmk hP2 hsz
  gi_wp2
  refine enter3 (gf := 60) (lb := #[.pointer (some ⟨w1.heap.size + 2, 0, none⟩)]) rfl (enters_of Tryz.func60 (by kernel_rfl) rfl) ?_
  intro r We hr hrec hdef hszE hbE
  have bE := nx bX hbE
  have hl2 : w1.heap.size + 1 < X3.heap.size := by have := HSZ.out; omega
  have h3 : X3.heap.size = w1.heap.size + 3 := HSZ.out
  refine (sub1_in 4 (by omega) s (by omega) (X3.heap.size + 1) (w1.heap.size + 2)
    (fun i A => ∃ k ss, CO w w1.heap.size X3.heap.size We.heap.size r k ss A ∧ k ≤ 4 ∧ ss.length = i ∧ Hid (G.walk 0 [] (G.cut s) = G.walk k ss ((G.cut s).drop i)))
    (fun _ A => CStop w X3.heap.size A ∧ Hid (G.walk 0 [] (G.cut s) = none)) We ((hbE.block _ (by omega)).trans k3) ?stable ?round ?start).mono ?_
  case stable =>
    rintro i A B ⟨k, ss, h1, h2⟩ hb
    exact ⟨k, ss, h1.grow hb, h2⟩
  case start => exact ⟨0, [], ⟨(hbE.block _ (by omega)).trans m1', (hbE.block _ (by omega)).trans m2', ⟨_, (hbE.block _ (by omega)).trans kP, ownN_nil _ _⟩, (hbE.block _ (by omega)).trans kL, hrec.out, hdef.out, bE, Nat.le_refl _⟩, by omega, rfl, hide rfl⟩
  case round =>
    rintro i hi A ⟨k, ss, hCO, hk4, hsl, HW⟩
    have HD : Hid ((G.cut s).drop i = (G.cut s)[i] :: (G.cut s).drop (i + 1)) := hide (List.drop_eq_getElem_cons hi)
    have hxl := HCX.out (G.cut s)[i] (List.getElem_mem hi)
    have HW2 : Hid (G.walk 0 [] (G.cut s) = if G.kind k (G.cut s)[i] = 0 then none else if ss.contains (G.form (G.kind k (G.cut s)[i]) (G.cut s)[i]) then none else G.walk (G.kind k (G.cut s)[i]) (ss ++ [G.form (G.kind k (G.cut s)[i]) (G.cut s)[i]]) ((G.cut s).drop (i + 1))) := hide (by rw [HW.out, HD.out]; rfl)
    generalize (G.cut s)[i] = x at *
    have hP : w.heap.size + 1 < w1.heap.size := z2
    have hle : X3.heap.size + 2 ≤ We.heap.size := by omega
    have hs41 : ss.length ≤ 41 := by omega
    have HSL := hide hsl
    clear hsl
    clear hrec hdef bE hszE hbE bX k3 kP kL m1' m2' h3 HW HD
    generalize w1.heap.size = P at *
    generalize X3.heap.size = l at *
    generalize We.heap.size = e0 at *
    have j5 := hCO.rec_
    refine yield3 hr j5 rfl ?_
    gi_wp2
    intro rb
    have hC1 := hCO.busy (rb := rb) hP hl2 hle
    clear hCO j5 hr
    generalize A.putObj (l + 1) (.loop rb) = A1 at *
    have cL := cell_one hC1.last
    have hkd := kind_any k hk4 ⟨x.toArray⟩ (by rw [sz_tx]; omega) A1
    rw [bts_tx] at hkd
    gi_wp2_with fail
    refine ⟨trivial, ?_⟩
    refine (CallsIn.inRound (l + 1) (callsIn_wide.2 hkd)).mono ?_
    rintro e A2 ⟨rfl, rfl⟩
    clear hkd cL
    by_cases hk0 : G.kind k x = 0
    · have HN : Hid (G.walk 0 [] (G.cut s) = none) := hide (by rw [HW2.out, if_pos hk0])
      have HS := hide (hC1.stop hP hl2)
      rw [hk0]
      simp only [show ((0 : Nat) : Int) = 0 from rfl]
      have c0 := cell_one hC1.r0
      have c1 := cell_one hC1.r1
      have f0 := froz_one hC1.r0
      have f1 := froz_one hC1.r1
      have q1 := (set_ne (W := A2) (b := w.heap.size) (k := w.heap.size + 1) (.string ⟨#[]⟩) (by omega)).trans hC1.r1
      have q2 := cell_one q1
      have q3 := froz_one q1
      clear HW2 q1 hC1 hk0
      gi_wp2
      exact ⟨HS.out.1, fun rd e1 e2 => .inr ⟨rfl, HS.out.2 rd e1 e2, HN⟩⟩
    · obtain ⟨ha1, ha2, ha3⟩ := G.kind_alnum hk0
      have hkk := kind_le k x
      have hfo := form_any (G.kind k x) hkk x ha1 ha2 ha3 A2
      have e0' : ((G.kind k x : Nat) : Int) ≠ 0 := by omega
      have e1 : (((G.kind k x : Nat) : Int) == 0) = false := by simp; omega
      rw [if_neg hk0] at HW2
      generalize G.kind k x = kk at *
      generalize G.form kk x = y at *
      unfold tx at hfo
      clear ha1 ha2 ha3 hk0 e0'
      gi_wp2_with fail
      refine ⟨trivial, ?_⟩
      refine (CallsIn.inRound (l + 1) (callsIn_wide.2 hfo)).mono ?_
      rintro e A3 ⟨rfl, hb3⟩
      have hC3 := hC1.grow hb3
      clear hC1 hb3 hfo
      obtain ⟨v, hv, hO⟩ := hC3.own
      obtain ⟨ao, cap, rfl, hcap, hrd⟩ := hO.rd
      have hct := contains_any A3 ao cap ss y hrd (by omega)
      unfold tx at hct
      have cP := cell_one hv
      gi_wp2_with fail
      refine ⟨trivial, ?_⟩
      refine (CallsIn.inRound (l + 1) (callsIn_wide.2 hct)).mono ?_
      rintro e A4 ⟨rfl, rfl⟩
      clear hct hrd
      cases hcc : ss.contains y with
      | true =>
        have HN : Hid (G.walk 0 [] (G.cut s) = none) := hide (by rw [HW2.out, hcc]; rfl)
        have HS := hide (hC3.stop hP hl2)
        have c0 := cell_one hC3.r0
        have c1 := cell_one hC3.r1
        have f0 := froz_one hC3.r0
        have f1 := froz_one hC3.r1
        have q1 := (set_ne (W := A4) (b := w.heap.size) (k := w.heap.size + 1) (.string ⟨#[]⟩) (by omega)).trans hC3.r1
        have q2 := cell_one q1
        have q3 := froz_one q1
        clear HW2 q1 hC3 hO hv
        gi_wp2
        exact ⟨HS.out.1, fun rd e1 e2 => .inr ⟨rfl, HS.out.2 rd e1 e2, HN⟩⟩
      | false =>
        have HW3 : Hid (G.walk 0 [] (G.cut s) = G.walk kk (ss ++ [y]) ((G.cut s).drop (i + 1))) := hide (by rw [HW2.out, hcc]; rfl)
        have rO : A4.ownsRow e0 9 1 (.slice ao ss.length cap) ss.length (ss.map tx) := hO
        have HNX := hide (fun (w9 : World) (v' : Value) (tmp : Obj) h1 h2 => hC3.next (r := r) hP hl2 hle (x := y) (w1 := w9) (v' := v') (tmp := tmp) kk hO h1 h2)
        have HLO := hide (fun (w9 : World) (tmp : Obj) (hg : (A4.alloc tmp).grownBy w9 (Value.slice ao ss.length cap).ownBlock) (j : Nat) hj => hC3.low hO hg (i := j) hj)
        have HPP := hide hv
        have HLA := hide hC3.last
        have le0 := hC3.le
        clear HW2 hC3 hO hv hcap
        generalize Value.slice ao ss.length cap = v at *
        gi_wp2_with (gi_at_builtin; refine wpListIn_append_own_at _ rfl _ _ 30 rfl e0 9 i0 (.string ByteArray.empty) 1 16 Tryz.underlying30 hi0 hz0 hz1 hz2 rfl (by decide) _ _ _ rfl (rO.alloc _) ⟨A4.heap.size, 0, none⟩ 1 1 [.string ⟨y.toArray⟩] rfl rfl (one_new _ _ _) (by simp [Value.oneCell']) (by unfold maxLen; omega) (by omega) (by simp; omega) ?_; intro v' w9 hown' hgrow _ hat; obtain ⟨g', cap', rfl⟩ := ownsRow_succ hown'; have hv1 := (HLO.out _ _ hgrow P (by omega)).trans HPP.out; have hv2 := (HLO.out _ _ hgrow (P + 1) (by omega)).trans HLA.out; have fin2 := HNX.out _ _ _ hown' hgrow; have hc1 := cell_one hv1; have hf1 := froz_one hv1; have hv3 := (set_ne (W := w9) (b := P) (k := P + 1) (.slice (some ⟨g', 0, none⟩) (ss.length + 1) cap') (by omega)).trans hv2; have hc3 := cell_one hv3; have hf3 := froz_one hv3; clear hv1 hv2 hv3 cP)
        exact ⟨fin2.1, .inl ⟨rfl, kk, ss ++ [y], fin2.2, hkk, by rw [List.length_append, HSL.out]; rfl, HW3⟩⟩
  rintro e W' ⟨hv, h⟩
  refine ⟨hv, ?_⟩
  have hl3 : w.heap.size + 1 < X3.heap.size := by omega
  rcases h with ⟨k, ss, hCO, _, hsl, HW⟩ | ⟨_, _, ⟨j0, j1, ⟨rd, e1, e2, j2⟩, j3, j4⟩, HN⟩
  · have HW4 : Hid (G.walk 0 [] (G.cut s) = some ss) := hide (by rw [HW.out, List.drop_length]; rfl)
    have HC2 : Hid (G.canon s = some (G.join ss)) := hide (by rw [HC.out, HW4.out]; rfl)
    have hjl : (G.join ss).length ≤ 40 := by
      rcases G.canon_cases HC2.out with h | ⟨_, _, _, h, _⟩
      · rw [h]; decide
      · exact h
    have hs41 : ss.length ≤ 41 := by omega
    refine .inl ⟨hCO.rec_, fun r' => ?_⟩
    have hC1 := hCO.busy (rb := r') z2 hl2 (by omega)
    clear hCO HW HC hsl hrec hdef bE hszE hbE bX k3 kP kL m1' m2' h3 hr
    generalize W'.putObj (X3.heap.size + 1) (.loop r') = W9 at *
    obtain ⟨v, hv, hO⟩ := hC1.own
    obtain ⟨ao, cap, rfl, hcap, hrd⟩ := hO.rd
    have hjn := joinC_any W9 ao cap ss hrd hcap (by omega) (by omega)
    have cP := cell_one hv
    generalize G.join ss = jj at *
    unfold tx at hjn
    gi_wp2_with fail
    refine ⟨trivial, ?_⟩
    refine (callsIn_wide.2 hjn).mono ?_
    rintro e W10 ⟨rfl, hb10⟩
    have hC2 := hC1.grow hb10
    clear hC1 hb10 hjn hrd
    have hcn := clone_any ⟨jj.toArray⟩ (by rw [sz_tx]; omega) W10
    gi_wp2_with fail
    refine ⟨trivial, ?_⟩
    refine (callsIn_wide.2 hcn).mono ?_
    rintro e W11 ⟨rfl, hb11⟩
    have hC3 := hC2.grow hb11
    clear hC2 hb11 hcn
    have c0 := cell_one hC3.r0
    have f0 := froz_one hC3.r0
    have q1 := (set_ne (W := W11) (b := w.heap.size) (k := w.heap.size + 1) (.string ⟨jj.toArray⟩) (by omega)).trans hC3.r1
    have q2 := cell_one q1
    have q3 := froz_one q1
    have q4 := (set_ne (W := W11.setCell ⟨w.heap.size, 0, none⟩ (.string ⟨jj.toArray⟩)) (b := w.heap.size + 1) (k := w.heap.size) (.int .i64 0) (by omega)).trans (set_one hC3.r0 _)
    have q5 := set_one q1 (.int .i64 0)
    have q6 := (set_ne (W := W11.setCell ⟨w.heap.size, 0, none⟩ (.string ⟨jj.toArray⟩)) (b := w.heap.size + 1) (k := X3.heap.size) (.int .i64 0) (by omega)).trans ((set_ne _ (by omega)).trans hC3.def_)
    have q7 := (hC3.below.setCell (p := ⟨w.heap.size, 0, none⟩) (Nat.le_refl _) (.string ⟨jj.toArray⟩)).setCell (p := ⟨w.heap.size + 1, 0, none⟩) (by show w.heap.size ≤ w.heap.size + 1; omega) (.int .i64 0)
    have Q1 := hide q1
    clear hC3 q1
    gi_wp2
    refine ⟨by simp, .inl ⟨_, _, rfl, run_takeDeferred q6, ?_⟩⟩
    refine ⟨_, res9 _ _ w.heap.size ⟨jj.toArray⟩ 0 rfl rfl (cell_one ((World.putObj_heap_other (by omega)).trans q4)) (cell_one ((World.putObj_heap_other (by omega)).trans q5)), .inl ⟨_, HC2.out, rfl⟩, q7.trans (below_put _ _ (by omega))⟩
  · have HC2 : Hid (G.canon s = none) := hide (by rw [HC.out, HN.out]; rfl)
    refine .inr ⟨rd, e1, e2, j2, fun r' => ?_⟩
    have hnp : ∀ k, k ≠ X3.heap.size + 1 → (W'.putObj (X3.heap.size + 1) (.loop r')).heap[k]? = W'.heap[k]? := fun k hk => World.putObj_heap_other hk
    have k0 := (hnp _ (by omega)).trans j0
    have k1 := (hnp _ (by omega)).trans j1
    have k4 := (hnp _ (by omega)).trans j3
    have k5 := j4.trans (below_put (n := w.heap.size) W' (.loop r') (show w.heap.size ≤ X3.heap.size + 1 by omega))
    clear hnp j0 j1 j2 j3 j4 HN HC hrec hdef bE hszE hbE bX k3 kP kL m1' m2' h3 hr
    generalize W'.putObj (X3.heap.size + 1) (.loop r') = W9 at *
    gi_wp2
    refine ⟨by simp, .inl ⟨_, _, rfl, run_takeDeferred k4, ?_⟩⟩
    refine ⟨_, res9 _ _ w.heap.size ⟨#[]⟩ 100 rfl rfl (cell_one ((World.putObj_heap_other (by omega)).trans k0)) (cell_one ((World.putObj_heap_other (by omega)).trans k1)), .inr ⟨HC2.out, rfl⟩, k5.trans (below_put _ _ (by omega))⟩
theorem canon_any (s : List UInt8) (hl : s.length ≤ 9223372036854775807) (w : World) (hA : AF w) : Calls Tryz.prog 23 #[tx s] w fun e W' => AnsC s e ∧ Below w.heap.size w W' := by
  by_cases h1 : 40 < s.length
  · exact canon_long s h1 hl w
  · by_cases h2 : s.map G.lo = G.rootB
    · exact canon_root s (by omega) h2 w hA
    · exact callsIn_wide.1 (canon_in s (by omega) h2 w hA)
end Go.Proofs.YtbeihgjonhgfmaaGreatDoor
