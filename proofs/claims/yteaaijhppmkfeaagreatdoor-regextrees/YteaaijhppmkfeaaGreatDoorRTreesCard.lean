/- RegexTrees answers true for every two expressions, however made; the eight library tables of its row lie as laid. -/
import Derived.Test.YteaaijhppmkfeaaGreatDoorRBase
import Derived.Test.YteaaijhppmkfeaaGreatDoorTie
import Derived.Test.YteaaijhppmkfeaaGreatDoorCards
import Derived.SevenTiedAt
import Derived.Test.YteaaijhppmkfeaaGreatDoorRNm7
namespace Go.Proofs.YteaaijhppmkfeaaGreatDoor
open Go.ChangeShapes Go.WideShapes Go.ChangeAt Go.RowKit
theorem trees_f1 : (Rows.regexTreesRow.inPlace == Tryz.pinned.checked.prog.inPlace 4) = true := by kernel_rfl
theorem trees_f2 : (Rows.regexTreesRow.unfollowed == Tryz.pinned.checked.prog.unfollowed 4) = true := by kernel_rfl
theorem trees_f3 : (Rows.regexTreesRow.recurses == Tryz.pinned.checked.prog.recurses 4) = true := by kernel_rfl
theorem trees_f4 : (Rows.regexTreesRow.named == Tryz.pinned.checked.prog.varsNamed 4) = true := by kernel_rfl
theorem trees_facts : joinedFacts Tryz.pinned.checked.prog 4 Tryz.f4 Rows.regexTreesSpec Rows.regexTreesRow = true := by
 unfold joinedFacts
 rw [trees_f1, trees_f2, trees_f3, trees_f4]
 kernel_rfl
theorem trees_g1 : Rows.regexTreesRow.wfByText (OpenSpec.ofChange Rows.regexTreesSpec) = true := by kernel_rfl
theorem trees_g2 : Tryz.pinned.checked.prog.mainIs = some (true, "80850bd2cc7d9ae1b8a748ddf4039f74a96b99c4a343cc0fc5d3eb535a9139b4".toList) := by kernel_rfl
theorem trees_g3 : true = Tryz.pinned.checked.prog.looks [] := by kernel_rfl
theorem trees_g4 : false = Rows.regexTreesRow.goesBy Tryz.pinned.checked.prog := by kernel_rfl
theorem trees_g5 : Tryz.pinned.checked.prog.funcNamed "hornbook/hornbooklaw7.RegexTrees" = some 4 := by kernel_rfl
theorem trees_g6 : ([26].all fun u => !Tryz.pinned.checked.prog.wantsStandIn u) = true := by kernel_rfl
end Go.Proofs.YteaaijhppmkfeaaGreatDoor
namespace Go.Proofs.YteaaijhppmkfeaaGreatDoor
open Go.ChangeShapes Go.WideShapes Go.ChangeAt Go.RowKit
set_option maxRecDepth 100000 in
theorem trees_lifted (os : Os) (started : os.Started) (H : Type) (enc : TypeId × Value → H) :
   ReturnsInHanded {} Tryz.checked os 4 .any (fun w args => (Rows.regexTreesSpec.pre enc Tryz.prog Tryz.f4 [] false w args ∧ laidMetH Tryz.prog laid1 w) ∧ sizedMet enc Tryz.prog Tryz.f4 (OpenSpec.ofChange Rows.regexTreesSpec) false w args)
     (Rows.regexTreesSpec.post enc Tryz.prog Tryz.f4 false true false false) := by
 refine returnsInHanded_of_change_and (C := Tryz.checked) (X := fun w _ => laidMetH Tryz.prog laid1 w) (fun _ _ _ hh h => h.of_heap hh) own started (by kernel_rfl) Tryz.func4
   (ChangeSpec.witness_shaped (enc := enc) (C := Tryz.checked) (os := os) (X := fun w _ => laidMetH Tryz.prog laid1 w) false (World.laidAll Tryz.prog os laid1) #[.agg #[.int .i64 0, .int .i64 0, .slice none 0 0, .string ⟨#[]⟩, .slice none 0 0], .agg #[.int .i64 0, .int .i64 0, .slice none 0 0, .string ⟨#[]⟩, .slice none 0 0]] 8 (World.laidAll_os _ _ _) (World.shaped_of_ZipB (by kernel_rfl) (by kernel_rfl)) (by kernel_rfl) (by kernel_rfl) (by kernel_rfl) (laid_met os _)) ?_
 intro W base args ds gs before hval0 hW _ _ hL _
 have hval : ∀ (j : Nat) t v, Tryz.f4.params[j]? = some t → args[j]? = some v → Value.okWide Tryz.prog W .any base t v := hval0
 have hW' := hW
 obtain ⟨p, q, hA0, hV, rfl, hfz, hnd⟩ := hW
 have hA : DataW.TrodAll enc Tryz.prog W 0 (fun _ => true) true Tryz.f4.params.toList args.toList ds p := hA0
 rw [Tryz.params4] at hA hval
 obtain ⟨v0, vs0, d0, ds0, p0, q0, hargs, rfl, rfl, h0, r0⟩ := trodAll_cons hA
 obtain ⟨v1, vs1, d1, ds1, p1, q1, rfl, rfl, rfl, h1, r1⟩ := trodAll_cons r0
 obtain ⟨rfl, rfl, rfl⟩ := trodAll_nil r1
 obtain rfl : args = #[v0, v1] := by cases args; simp_all
 obtain ⟨rfl, rfl⟩ := trodVars_none hV
 obtain ⟨cs0, rfl, hsz0⟩ := okWide_struct Tryz.underlying26 (hval 0 26 v0 rfl rfl)
 have k0 := h0
 have lt0 : ∀ x ∈ p0, x.block < W.heap.size := by obtain ⟨m, hm⟩ := k0; exact DataW.trod_lt m _ _ _ hm
 obtain ⟨fl0, hf0⟩ := h0
 obtain ⟨⟨nd0, t0⟩, hc0, hT0, hI0⟩ := tr_of_trod fl0 _ _ hf0
 obtain rfl : cs0 = nd0.cs.toArray := by rw [← hc0]; rfl
 obtain ⟨cs1, rfl, hsz1⟩ := okWide_struct Tryz.underlying26 (hval 1 26 v1 rfl rfl)
 have k1 := h1
 have lt1 : ∀ x ∈ p1, x.block < W.heap.size := by obtain ⟨m, hm⟩ := k1; exact DataW.trod_lt m _ _ _ hm
 obtain ⟨fl1, hf1⟩ := h1
 obtain ⟨⟨nd1, t1⟩, hc1, hT1, hI1⟩ := tr_of_trod fl1 _ _ hf1
 obtain rfl : cs1 = nd1.cs.toArray := by rw [← hc1]; rfl
 clear hA0 hval0
 refine (trees_any t0 t1 hI0 hI1 nd0 nd1 W (tabs_of_laid hL) (deb_of_laid hL) hT0 hT1).mono fun e W' ⟨he, bel⟩ => ?_
 subst he
 exact ⟨_, rfl, _, _, _, [], _, [], hW', trodAll_mk1 (shut_bool Tryz.underlying4 _), (trodAll_cons_mk (Below.trod laidOut (by kernel_rfl) (of_decide_eq_true (by kernel_rfl)) k0 bel lt0) (trodAll_cons_mk (Below.trod laidOut (by kernel_rfl) (of_decide_eq_true (by kernel_rfl)) k1 bel lt1) trodAll_mk0)), rfl, bel.frame _, fun h => by cases h⟩
theorem trees_row : Rows.RegexTreesSaid :=
 OpenClaim.holds_of_wide 4 Tryz.f4 rfl rfl rfl rfl rfl rfl rfl ⟨rfl, rfl, rfl, rfl, rfl⟩ rfl rfl rfl rfl rfl (by kernel_rfl) Tryz.func4 trees_facts
   (of_decide_eq_true (by kernel_rfl)) (by unfold Func.isWrapper; first | (rw [if_pos (by decide +kernel)]; kernel_rfl) | (rw [if_neg (by decide +kernel)]; exact ⟨rfl, rfl⟩))
   (fun os started H enc _ => trees_lifted os started H enc)
theorem trees_holds : Rows.RegexTreesCardSaid :=
 Claim7.holds_tied_plain_at .later [] [.data, .data, .data, .data, .sentinel, .sentinel, .pinned, .pinned] true (true, "80850bd2cc7d9ae1b8a748ddf4039f74a96b99c4a343cc0fc5d3eb535a9139b4") true
   trees_row (fun _ h => by cases h) trees_g1 (fun _ h => by cases h) regexTrees_row_tie rfl ⟨rfl, rfl⟩ trees_g2 rfl
   (fun f fn hf hfn => by
     obtain rfl : f = 4 := Option.some.inj (trees_g5.symm.trans hf) |>.symm
     obtain rfl : fn = Tryz.f4 := (Option.some.inj (Tryz.func4.symm.trans hfn)).symm
     exact ⟨trees_g3, fun j t ht => by
       rw [Tryz.params4] at ht
       have hm : t ∈ [26] := by simpa using Array.mem_of_getElem? ht
       have hall := trees_g6
       exact (show Tryz.pinned.checked.prog.wantsStandIn t = false by simpa using List.all_eq_true.1 hall t hm)⟩)
   trees_g4
#print axioms trees_holds
end Go.Proofs.YteaaijhppmkfeaaGreatDoor
