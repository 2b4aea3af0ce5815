/- The iterator over the signs of a text: whatever a round does that keeps the text's box, it is told each sign in its order, and no more once it says so. -/
import Derived.Test.YtidpalighpdlfaaGreatDoorFst
namespace Go.Proofs.YtidpalighpdlfaaGreatDoor
open Go.RowKit Go.Shelf
attribute [local go_sem] Oper.semAt_some

/-- What a round is told: a sign, its place, and an error's number. -/
abbrev Yk := (X.Tk × Nat) × Nat
def encK (x : Yk) : Array Value := #[tokV x.1.1 x.1.2, .int .i64 (x.2 : Int)]
/-- Those of a list, without an error. -/
def okY (l : List (X.Tk × Nat)) : List Yk := l.map fun p => (p, 0)
theorem okY_snoc (l : List (X.Tk × Nat)) (p : X.Tk × Nat) : okY (l ++ [p]) = okY l ++ [(p, 0)] := by simp [okY]
theorem okY_length (l : List (X.Tk × Nat)) : (okY l).length = l.length := by simp [okY]
/-- All that is told of a text. -/
def Told (b : List UInt8) (ys : List Yk) : Prop := (∃ l, X.scan 0 b = .ok l ∧ ys = okY l) ∨ ∃ at_ pre, X.scan 0 b = .error at_ ∧ ys = okY pre ++ [((tz, at_), 60)]
/-- What was told when a round wanted no more. -/
def Part (b : List UInt8) (ys : List Yk) : Prop := ∀ p0 x, ys = p0 ++ [x] → x.2 ≠ 0 → X.scan 0 b = .error x.1.2 ∧ x.2 = 60
theorem part_ok {b : List UInt8} {p0 : List Yk} {p : X.Tk × Nat} : Part b (p0 ++ [(p, 0)]) := by
  intro q x h hx
  have := List.append_inj_right' h rfl
  cases this
  exact absurd rfl hx
theorem part_err {b : List UInt8} {p0 : List Yk} {at_ : Nat} (h : X.scan 0 b = .error at_) : Part b (p0 ++ [((tz, at_), 60)]) := by
  intro q x e _
  have := List.append_inj_right' e rfl
  cases this
  exact ⟨h, rfl⟩
theorem emap_emap {α β γ : Type} (f : α → β) (g : β → γ) (e : Except Nat α) : (e.map f).map g = e.map (fun x => g (f x)) := by cases e <;> rfl
theorem emap_id {α : Type} (e : Except Nat α) : e.map (fun x => x) = e := by cases e <;> rfl

/-- What the iterator reads: the box of its text, the library's tables. -/
structure StK (Bn : Nat) (s : ByteArray) (W : World) : Prop where
  box : W.cell? ⟨Bn, 0, none⟩ = some (.string s)
  tabs : Tabs W
theorem StK.kept {Bn : Nat} {s : ByteArray} {W W' : World} {row : Option Nat} (h : StK Bn s W) (hg : W.grownBy W' row) (hr : ∀ r, row = some r → ∃ o : Obj, W.heap[r]? = some o ∧ o.isCells = false) : StK Bn s W' :=
  ⟨cell_kept h.box hg hr, ⟨fun c hc => cell_kept (h.tabs.1 c hc) hg hr, fun i hi => ⟨cell_kept (h.tabs.2 i hi).1 hg hr, cell_kept (h.tabs.2 i hi).2 hg hr⟩⟩⟩

set_option maxRecDepth 100000 in
set_option maxHeartbeats 2000000 in
theorem sgn1_in (n : Nat) (hn : 1 ≤ n) (l Bn : Nat) (s : ByteArray) (hs : s.size ≤ 100000) (J Jx : List Yk → World → Prop)
    (W : World) (hJ : AbidesFrom W.heap.size J)
    (hY : ∀ pre x W1, J pre W1 → pre.length < s.size + 1 → YieldAt Fence.wide (n - 1) Tryz.prog l (encK x) W1 fun e W' =>
      (e = .returned (.bool true) ∧ J (pre ++ [x]) W' ∧ (StK Bn s W1 → StK Bn s W')) ∨ (e = .returned (.bool false) ∧ Jx (pre ++ [x]) W'))
    (hS : StK Bn s W) (h0 : J [] W) :
    CallsIn Fence.wide n Tryz.prog 19 #[.func (.yield l) #[] #[], .pointer (some ⟨Bn, 0, none⟩)] W fun e W' => (∃ v, e = .returned v) ∧
      ((∃ ys, Told (bts s) ys ∧ J ys W') ∨ (∃ pre, Part (bts s) pre ∧ Jx pre W')) := by
  have hbox := hS.box
  have hB := behind_any s hs 0 (Nat.zero_le _) W
  have hnext : ∀ (pre : List (X.Tk × Nat)) (x : Yk) (wr w2 : World), J (okY pre) wr → StK Bn s wr → Below wr.heap.size wr w2 → pre.length ≤ s.size → ∃ fn tmps assign body, (Instr.yield l (encK x)).run Tryz.prog w2 = .ok (.round l fn tmps assign body) w2 ∧
      RoundIn Fence.wide (n - 1) Tryz.prog l fn tmps assign body w2 (fun e W' => (e = .returned (.bool true) ∧ J (okY pre ++ [x]) W' ∧ StK Bn s W') ∨ (e = .returned (.bool false) ∧ Jx (okY pre ++ [x]) W')) := by
    intro pre x wr w2 hJs hSs hb2 hpl
    have hg2 := grown_below hb2 none
    have hJ2 : J (okY pre) w2 := hJ _ wr w2 none hJs hg2 (fun r e => by cases e)
    have hS2 : StK Bn s w2 := hSs.kept hg2 (fun r e => by cases e)
    obtain ⟨fn, tmps, assign, body, hy, hR⟩ := hY (okY pre) x w2 hJ2 (by rw [okY_length]; omega)
    refine ⟨fn, tmps, assign, body, hy, hR.mono ?_⟩
    rintro e W' (⟨h1, h2, h3⟩ | h)
    · exact .inl ⟨h1, h2, h3 hS2⟩
    · exact .inr h
  clear hY
  refine callsIn_of_wp Tryz.func19 rfl trivial ?_ rfl
  simp only [Tryz.ntmps19, List.size_toArray, List.length_cons, List.length_nil, Nat.reduceAdd, Nat.reduceSub, Array.replicate_succ, Array.replicate_zero, List.push_toArray, List.append_toArray, List.nil_append, List.cons_append]
  gi_wp2_with (refine ⟨trivial, ?_⟩; gi_at_call 20; refine (callsIn_wide.2 hB).mono ?_; rintro e w1 ⟨⟨j0, rfl, hj0⟩, rfl⟩)
  clear hB
  gi_loopw [3] (fun p wr => ∃ (pre : List (X.Tk × Nat)) (i : Nat), p = .int .i64 (i : Int) ∧ i ≤ s.size ∧ pre.length ≤ i ∧ Hid (X.scan 0 (bts s) = (X.scan i ((bts s).drop i)).map fun m => pre ++ m) ∧ Hid (i < s.size → ∃ c u, (bts s).drop i = c :: u ∧ X.blank c = false ∧ c ≠ 35) ∧ J (okY pre) wr ∧ StK Bn s wr)
    (fun p _ => s.size - (intOf p).toNat)
  case atStart =>
    obtain ⟨h1, h2, h3, h4⟩ := hj0
    exact ⟨[], j0, rfl, h2, Nat.zero_le _, hide (by rw [List.drop_zero] at h3; rw [h3]; simp only [List.nil_append]; exact (emap_id _).symm), hide h4, h0, hS⟩
  case round =>
    obtain ⟨pre, i, rfl, hi, hpl, HP, HC, hJs, hSs⟩ := hrel
    have hbox := hSs.box
    by_cases hlt : i < s.size
    · obtain ⟨c, u, hcu, hbl, h35⟩ := HC.out hlt
      have hex := extract_size s i
      have hF := first_lex (s.extract i s.size) (by omega) (by omega) wr hSs.tabs
      rw [bts_extract, hcu] at hF
      clear hex
      cases hnx : X.nextL (c :: u) with
      | none =>
        have HE : Hid (X.scan 0 (bts s) = .error i) := hide (by rw [HP.out, hcu, X.scan_none _ _ hbl h35 hnx]; rfl)
        rw [hnx] at hF
        clear HP HC hcu hbl h35 hnx
        gi_wp2_with (refine ⟨trivial, ?_⟩; gi_at_call 21; refine (callsIn_wide.2 hF).mono ?_; rintro e w2 ⟨⟨t, k, rfl, _, hk⟩, hb2⟩; obtain rfl := (hk rfl); unfold tokV; (obtain ⟨fn, tmps, assign, body, hy, hR⟩ := hnext pre ((tz, i), 60) wr (w2.alloc (.cells #[.int .i64 (t.kind : Int), .int .i64 0, .string ⟨t.text.toArray⟩, .int .i32 t.r] 33)) hJs hSs (hb2.alloc hb2.size _) (by omega)); unfold encK tokV tz at hy; simp only [show ((0 : Nat) : Int) = 0 from rfl, show ((60 : Nat) : Int) = 60 from rfl] at hy)
        refine hR.mono ?_
        rintro e W3 (⟨rfl, hJ3, hS3⟩ | ⟨rfl, hJx3⟩)
        · gi_wp2
          refine bodyPost_ret (results_none rfl _ _ _) rfl ?_
          exact ⟨⟨_, rfl⟩, .inl ⟨_, .inr ⟨i, pre, HE.out, rfl⟩, hJ3⟩⟩
        · gi_wp2
          refine bodyPost_ret (results_none rfl _ _ _) rfl ?_
          exact ⟨⟨_, rfl⟩, .inr ⟨_, part_err HE.out, hJx3⟩⟩
      | some q =>
        obtain ⟨t, k⟩ := q
        obtain ⟨hk1, hk2⟩ := X.next_size hnx
        have hk3 : i + k ≤ s.size := by
          rw [← hcu, List.length_drop, bts_len] at hk2
          omega
        have HQ : Hid (X.scan 0 (bts s) = (X.scan (i + k) ((bts s).drop (i + k))).map fun m => (pre ++ [(t, i)]) ++ m) := hide (by
          rw [HP.out, hcu, X.scan_some _ _ hbl h35 hnx, emap_emap, ← hcu, List.drop_drop]
          congr 1
          funext m
          simp)
        have e0 : ((k : Int) == 0) = false := by rw [beq_eq_false_iff_ne]; omega
        rw [hnx] at hF
        clear HP HC hcu hbl h35 hnx hk2
        gi_wp2_with (refine ⟨trivial, ?_⟩; gi_at_call 21; refine (callsIn_wide.2 hF).mono ?_; rintro e w2 ⟨⟨t', k', he, hk, _⟩, hb2⟩; (have h1 : t' = t := (hk _ rfl).1); (have h2 : k' = k := (hk _ rfl).2); rw [h1, h2] at he; clear h1 h2 hk; subst he; unfold tokV; (obtain ⟨fn, tmps, assign, body, hy, hR⟩ := hnext pre ((t, i), 0) wr (w2.alloc (.cells #[.int .i64 (t.kind : Int), .int .i64 (i : Int), .string ⟨t.text.toArray⟩, .int .i32 t.r] 33)) hJs hSs (hb2.alloc hb2.size _) (by omega)); unfold encK tokV at hy; simp only [show ((0 : Nat) : Int) = 0 from rfl] at hy)
        refine hR.mono ?_
        rintro e W3 (⟨rfl, hJ3, hS3⟩ | ⟨rfl, hJx3⟩)
        · have hbox3 := hS3.box
          have hB := behind_any s hs (i + k) hk3 W3
          gi_wp2_with (refine ⟨trivial, ?_⟩; gi_at_call 20; refine (callsIn_wide.2 hB).mono ?_; rintro e w1 ⟨⟨j, rfl, hj⟩, rfl⟩)
          obtain ⟨h1, h2, h3, h4⟩ := hj
          go_roundw
          case rel => exact ⟨pre ++ [(t, i)], j, by go_num, h2, by simp; omega, hide (by rw [HQ.out, h3]), hide h4, by rw [okY_snoc]; exact hJ3, hS3⟩
          case measure => simp [intOf]; omega
        · gi_wp2
          refine bodyPost_ret (results_none rfl _ _ _) rfl ?_
          exact ⟨⟨_, rfl⟩, .inr ⟨_, part_ok, hJx3⟩⟩
    · obtain rfl : i = s.size := by omega
      have HE : Hid (X.scan 0 (bts s) = .ok (pre ++ [(tz, s.size)])) := hide (by
        have hd : (bts s).drop s.size = [] := List.drop_eq_nil_of_le (by rw [bts_len]; exact Nat.le_refl _)
        rw [HP.out, hd, X.scan_nil]
        rfl)
      clear HP HC
      obtain ⟨fn, tmps, assign, body, hy, hR⟩ := hnext pre ((tz, s.size), 0) wr wr hJs hSs (Below.refl _ _) (by omega)
      unfold encK tokV tz at hy
      simp only [show ((0 : Nat) : Int) = 0 from rfl] at hy
      gi_wp2
      refine hR.mono ?_
      rintro e W3 (⟨rfl, hJ3, hS3⟩ | ⟨rfl, hJx3⟩)
      · gi_wp2
        go_end0
        exact ⟨⟨_, rfl⟩, .inl ⟨_, .inl ⟨_, HE.out, (okY_snoc _ _).symm⟩, hJ3⟩⟩
      · gi_wp2
        go_end0
        exact ⟨⟨_, rfl⟩, .inr ⟨_, part_ok, hJx3⟩⟩

set_option maxHeartbeats 1000000 in
theorem sgn_in (n : Nat) (s : ByteArray) (w : World) :
    CallsIn Fence.wide n Tryz.prog 10 #[.string s] w fun e w' => e = .returned (.func (.func 19) #[] #[.pointer (some ⟨w.heap.size, 0, none⟩)]) ∧ w' = w.alloc (.cells #[.string s] 9) := by
  refine callsIn_of_wp Tryz.func10 rfl trivial ?_ rfl
  simp only [Tryz.ntmps10, List.size_toArray, List.length_cons, List.length_nil, Nat.reduceAdd, Nat.reduceSub, Array.replicate_succ, Array.replicate_zero, List.push_toArray, List.append_toArray, List.nil_append, List.cons_append]
  gi_wp2
  go_ret
  exact ⟨rfl, rfl⟩

theorem sgn_stops (n : Nat) (hn : 1 ≤ n) (Bn : Nat) (s : ByteArray) (hs : s.size ≤ 100000) (w : World) (hS : StK Bn s w) :
    SeqStopsK Fence.wide n Tryz.prog 19 #[.pointer (some ⟨Bn, 0, none⟩)] encK (fun A B => StK Bn s A → StK Bn s B) (Told (bts s)) (Part (bts s)) (s.size + 1) w := fun l J Jx W hW hJ _ hY h0 =>
  sgn1_in n hn l Bn s hs J Jx W hJ hY (hS.kept (grown_below hW none) (fun r e => by cases e)) h0
end Go.Proofs.YtidpalighpdlfaaGreatDoor
