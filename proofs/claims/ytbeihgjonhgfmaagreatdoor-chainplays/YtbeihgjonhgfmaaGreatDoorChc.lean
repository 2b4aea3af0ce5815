/- Set. -/
import Derived.Test.YtbeihgjonhgfmaaGreatDoorChb
namespace Go.Proofs.YtbeihgjonhgfmaaGreatDoor
open Go.RowKit Go.Shelf Go.Maps
attribute [local go_sem] Oper.semAt_some
namespace C
theorem Alt.after {w w1 W' : World} {a : Nat} {mb : Option Nat} (h : Alt w1 W' a mb) (b : Below w.heap.size w w1) : Alt w W' a mb :=
  ⟨h.os.trans b.os, h.tape.trans b.tape, h.output.trans b.output, Nat.le_trans b.size h.size, fun i hi h1 h2 => (h.block i (Nat.lt_of_lt_of_le hi b.size) h1 h2).trans (b.block i hi)⟩
theorem Alt.before {w w1 W' : World} {a : Nat} {mb : Option Nat} (h : Alt w w1 a mb) (b : Below w1.heap.size w1 W') : Alt w W' a mb :=
  ⟨b.os.trans h.os, b.tape.trans h.tape, b.output.trans h.output, Nat.le_trans h.size b.size, fun i hi h1 h2 => (b.block i (Nat.lt_of_lt_of_le hi h.size)).trans (h.block i hi h1 h2)⟩
theorem Nu.later {w w1 : World} {mb mb' : Option Nat} (h : Nu w1 mb mb') (b : Below w.heap.size w w1) : Nu w mb mb' := by
  rcases h with h | ⟨h1, b1, h2, h3⟩
  · exact .inl h
  · exact .inr ⟨h1, b1, h2, Nat.le_trans b.size h3⟩
theorem build64 {w : World} {ρ : Operand → Value} {o : Oper} {x y : Operand} {s : ByteArray} {b : Bool} (hop : o.op = .build 64 #[(0, x), (1, y)]) (hx : ρ x = .string s) (hy : ρ y = .bool b) : (execOp ρ o).run Tryz.prog w = .ok (.value (.agg #[.string s, .bool b])) w := by
  obtain ⟨dst, op, type, pos, after, guard⟩ := o
  simp only at hop
  subst hop
  simp [execOp, hx, hy, Result.andThen, go_sem, Instr.build]
set_option maxRecDepth 100000 in
set_option maxHeartbeats 2000000 in
theorem setF_any {w : World} {a : Nat} {mb : Option Nat} {L : Row} (h : FO w a mb L) (k p : Tx) (hk : k.length ≤ 9223372036854775807) (hp : p.length ≤ 9223372036854775807) (hn : L.length < 1000000) (hA : AF w) :
    Calls Tryz.prog 11 #[.pointer (some ⟨a, 0, none⟩), tx k, tx p] w fun e W' => ((G.isT k = true ∧ (p = [] ∨ G.isT p = true) ∧ e = .returned (.int .i64 0) ∧ ∃ mb', FO W' a mb' (put L k p) ∧ Nu w mb mb') ∨ (¬ (G.isT k = true ∧ (p = [] ∨ G.isT p = true)) ∧ e = .returned (.int .i64 100) ∧ FO W' a mb L)) ∧ Alt w W' a mb := by
  have hi1 := is_any k hk w hA
  have hi2 := fun W hW => is_any p hp W (hA.later hW)
  have alt0 : ∀ W, Below w.heap.size w W → Alt w W a mb := fun W b => ⟨b.os, b.tape, b.output, b.size, fun i hi _ _ => b.block i hi⟩
  cases hTk : G.isT k with
  | false =>
    rw [hTk] at hi1
    have HH := hide h
    clear h hi2 hTk hA hn
    unfold tx at *
    go_enter Tryz.func11, Tryz.ntmps11
    go_wp2_with fail
    refine hi1.mono ?_
    rintro e w1 ⟨rfl, b1⟩
    clear hi1
    go_wp2
    go_ret
    exact ⟨.inr ⟨(fun h => by cases h.1), rfl, HH.out.later b1⟩, alt0 _ b1⟩
  | true =>
    rw [hTk] at hi1
    have hk40 : k.length ≤ 40 := by
      by_cases hr : k = G.rootB
      · rw [hr]; decide
      · obtain ⟨_, _, _, h4, _⟩ := G.isT_cases hTk hr; exact h4
    by_cases hpe : p = []
    · subst hpe
      have hcl1 := fun W => clone_any ⟨k.toArray⟩ (by rw [sz_tx]; omega) W
      have hcl2 := fun W => clone_any ⟨#[]⟩ (by decide) W
      have hset := fun W (hW : Below w.heap.size w W) => set_any (h.later hW) k [] hk40 (by simp) hn
      have HH := hide h
      clear h hTk hA hn hi2
      unfold tx linkV at *
      go_enter Tryz.func11, Tryz.ntmps11
      go_wp2_with fail
      refine hi1.mono ?_
      rintro e w2 ⟨rfl, b2'⟩
      clear hi1
      go_wp2
      refine Reg.start (B := 0) (by kernel_rfl) ?_
      obtain ⟨wa, hwa⟩ : ∃ wa, wa = w2.drew := ⟨_, rfl⟩
      rw [← hwa]
      have bA : Below w.heap.size w wa := by rw [hwa]; exact b2'.drew
      clear hwa b2'
      refine Reg.take (fun _ _ _ _ _ h => h) 0 _ 21 (.pointer (some ⟨a, 0, none⟩)) rfl (by kernel_rfl) (by kernel_rfl) (by kernel_rfl) rfl (by kernel_rfl) (by kernel_rfl) (fun w' hw => by kernel_rfl) ?_
      refine Reg.take (fun _ _ _ _ _ h => h) 1 _ 22 (.pointer (some ⟨a, 0, none⟩)) rfl (by kernel_rfl) (by kernel_rfl) (by kernel_rfl) rfl (by kernel_rfl) (by kernel_rfl) (fun w' hw => by kernel_rfl) ?_
      refine Reg.take (fun _ _ _ _ _ h => h) 2 _ 23 (.pointer (some ⟨a, 0, none⟩)) rfl (by kernel_rfl) (by kernel_rfl) (by kernel_rfl) rfl (by kernel_rfl) (by kernel_rfl) (fun w' hw => by kernel_rfl) ?_
      refine Reg.take (fun _ _ _ _ _ h => h) 3 _ 24 (tx k) rfl (by kernel_rfl) (by kernel_rfl) (by kernel_rfl) rfl (by kernel_rfl) (by kernel_rfl) (fun w' hw => by kernel_rfl) ?_
      refine Reg.take (fun _ _ _ _ _ h => h) 5 _ 26 (tx []) rfl (by kernel_rfl) (by kernel_rfl) (by kernel_rfl) rfl (by kernel_rfl) (by kernel_rfl) (fun w' hw => by kernel_rfl) ?_
      refine Reg.take (fun _ _ _ _ _ h => h) 7 _ 28 (.bool false) rfl (by kernel_rfl) (by kernel_rfl) (by kernel_rfl) rfl (by kernel_rfl) (by kernel_rfl) (fun w' hw => by kernel_rfl) ?_
      refine Reg.call 4 _ 25 28 _ _ #[tx k] rfl (by kernel_rfl) rfl (by kernel_rfl) (by kernel_rfl) rfl (by kernel_rfl) (by kernel_rfl) (hcl1 wa) ?_
      rintro e w3 ⟨rfl, b3⟩
      refine ⟨_, 0, rfl, Nat.le_refl _, b3.mono (Nat.zero_le _), ?_⟩
      refine Reg.call 6 _ 27 28 _ _ #[tx []] rfl (by kernel_rfl) rfl (by kernel_rfl) (by kernel_rfl) rfl (by kernel_rfl) (by kernel_rfl) (hcl2 w3) ?_
      rintro e w4 ⟨rfl, b4⟩
      refine ⟨_, 0, rfl, Nat.le_refl _, b4.mono (Nat.zero_le _), ?_⟩
      refine Reg.only 8 _ 29 rfl (by kernel_rfl) rfl (by kernel_rfl) (by kernel_rfl) ⟨_, w4, 0, build64 rfl rfl rfl, Nat.le_refl _, Below.refl _ _, ?_⟩
      have bB := nx bA (nx b3 b4)
      refine Reg.call 9 _ 30 27 _ _ #[.pointer (some ⟨a, 0, none⟩), tx k, .agg #[.string ⟨#[]⟩, .bool false]] rfl (by kernel_rfl) rfl (by kernel_rfl) (by kernel_rfl) rfl (by kernel_rfl) (by kernel_rfl) (hset w4 bB) ?_
      rintro e w5 ⟨rfl, mb', h5, a5, n5⟩
      refine ⟨_, 0, rfl, Nat.le_refl _, a5.below (Nat.zero_le _) (fun _ _ => Nat.zero_le _) (Nat.zero_le _), ?_⟩
      refine Reg.done (by kernel_rfl) ?_
      simp only [Reg.ov, Act.put, List.setIfInBounds_toArray, List.set_cons_succ, List.set_cons_zero]
      go_wp2
      go_ret
      exact ⟨.inl ⟨trivial, .inl trivial, rfl, mb', h5, n5.later bB⟩, a5.after bB⟩
    · have hpb : (p == []) = false := by simpa using hpe
      cases hTp : G.isT p with
      | false =>
        rw [hTp] at hi2
        have HH := hide h
        clear h hTk hTp hA hn
        unfold tx at *
        go_enter Tryz.func11, Tryz.ntmps11
        go_wp2_with fail
        refine hi1.mono ?_
        rintro e w1 ⟨rfl, b1⟩
        clear hi1
        go_wp2_with fail
        refine (hi2 w1 b1).mono ?_
        rintro e w2 ⟨rfl, b2⟩
        clear hi2
        go_wp2
        go_ret
        exact ⟨.inr ⟨fun h => h.2.elim (fun h => hpe h) (fun h => by cases h), rfl, HH.out.later (nx b1 b2)⟩, alt0 _ (nx b1 b2)⟩
      | true =>
        rw [hTp] at hi2
        have hp40 : p.length ≤ 40 := by
          by_cases hr : p = G.rootB
          · rw [hr]; decide
          · obtain ⟨_, _, _, h4, _⟩ := G.isT_cases hTp hr; exact h4
        have hcl1 := fun W => clone_any ⟨k.toArray⟩ (by rw [sz_tx]; omega) W
        have hcl2 := fun W => clone_any ⟨p.toArray⟩ (by rw [sz_tx]; omega) W
        have hset := fun W (hW : Below w.heap.size w W) => set_any (h.later hW) k p hk40 hp40 hn
        have HH := hide h
        clear h hTk hTp hA hn
        unfold tx linkV at *
        rw [hpb] at hset
        go_enter Tryz.func11, Tryz.ntmps11
        go_wp2_with fail
        refine hi1.mono ?_
        rintro e w1 ⟨rfl, b1⟩
        clear hi1
        go_wp2_with fail
        refine (hi2 w1 b1).mono ?_
        rintro e w2 ⟨rfl, b2⟩
        clear hi2
        have b2' := nx b1 b2
        clear b1 b2
        go_wp2
        refine Reg.start (B := 0) (by kernel_rfl) ?_
        obtain ⟨wa, hwa⟩ : ∃ wa, wa = w2.drew := ⟨_, rfl⟩
        rw [← hwa]
        have bA : Below w.heap.size w wa := by rw [hwa]; exact b2'.drew
        clear hwa b2'
        refine Reg.take (fun _ _ _ _ _ h => h) 0 _ 21 (.pointer (some ⟨a, 0, none⟩)) rfl (by kernel_rfl) (by kernel_rfl) (by kernel_rfl) rfl (by kernel_rfl) (by kernel_rfl) (fun w' hw => by kernel_rfl) ?_
        refine Reg.take (fun _ _ _ _ _ h => h) 1 _ 22 (.pointer (some ⟨a, 0, none⟩)) rfl (by kernel_rfl) (by kernel_rfl) (by kernel_rfl) rfl (by kernel_rfl) (by kernel_rfl) (fun w' hw => by kernel_rfl) ?_
        refine Reg.take (fun _ _ _ _ _ h => h) 2 _ 23 (.pointer (some ⟨a, 0, none⟩)) rfl (by kernel_rfl) (by kernel_rfl) (by kernel_rfl) rfl (by kernel_rfl) (by kernel_rfl) (fun w' hw => by kernel_rfl) ?_
        refine Reg.take (fun _ _ _ _ _ h => h) 3 _ 24 (tx k) rfl (by kernel_rfl) (by kernel_rfl) (by kernel_rfl) rfl (by kernel_rfl) (by kernel_rfl) (fun w' hw => by kernel_rfl) ?_
        refine Reg.take (fun _ _ _ _ _ h => h) 5 _ 26 (tx p) rfl (by kernel_rfl) (by kernel_rfl) (by kernel_rfl) rfl (by kernel_rfl) (by kernel_rfl) (fun w' hw => by kernel_rfl) ?_
        refine Reg.take (fun _ _ _ _ _ h => h) 7 _ 28 (.bool true) rfl (by kernel_rfl) (by kernel_rfl) (by kernel_rfl) rfl (by kernel_rfl) (by kernel_rfl) (fun w' hw => by kernel_rfl) ?_
        refine Reg.call 4 _ 25 28 _ _ #[tx k] rfl (by kernel_rfl) rfl (by kernel_rfl) (by kernel_rfl) rfl (by kernel_rfl) (by kernel_rfl) (hcl1 wa) ?_
        rintro e w3 ⟨rfl, b3⟩
        refine ⟨_, 0, rfl, Nat.le_refl _, b3.mono (Nat.zero_le _), ?_⟩
        refine Reg.call 6 _ 27 28 _ _ #[tx p] rfl (by kernel_rfl) rfl (by kernel_rfl) (by kernel_rfl) rfl (by kernel_rfl) (by kernel_rfl) (hcl2 w3) ?_
        rintro e w4 ⟨rfl, b4⟩
        refine ⟨_, 0, rfl, Nat.le_refl _, b4.mono (Nat.zero_le _), ?_⟩
        refine Reg.only 8 _ 29 rfl (by kernel_rfl) rfl (by kernel_rfl) (by kernel_rfl) ⟨_, w4, 0, build64 rfl rfl rfl, Nat.le_refl _, Below.refl _ _, ?_⟩
        have bB := nx bA (nx b3 b4)
        refine Reg.call 9 _ 30 27 _ _ #[.pointer (some ⟨a, 0, none⟩), tx k, .agg #[.string ⟨p.toArray⟩, .bool true]] rfl (by kernel_rfl) rfl (by kernel_rfl) (by kernel_rfl) rfl (by kernel_rfl) (by kernel_rfl) (hset w4 bB) ?_
        rintro e w5 ⟨rfl, mb', h5, a5, n5⟩
        refine ⟨_, 0, rfl, Nat.le_refl _, a5.below (Nat.zero_le _) (fun _ _ => Nat.zero_le _) (Nat.zero_le _), ?_⟩
        refine Reg.done (by kernel_rfl) ?_
        simp only [Reg.ov, Act.put, List.setIfInBounds_toArray, List.set_cons_succ, List.set_cons_zero]
        go_wp2
        go_ret
        exact ⟨.inl ⟨trivial, .inr trivial, rfl, mb', h5, n5.later bB⟩, a5.after bB⟩
end C
end Go.Proofs.YtbeihgjonhgfmaaGreatDoor
