/- known: the examples. -/
import Derived.Test.YtidpalighpdlfaaGreatDoorPrl
import Derived.Test.YtidpalighpdlfaaGreatDoorScn
namespace Go.Proofs.YtidpalighpdlfaaGreatDoor
open Go.RowKit

theorem ex_tail : X.tailP false [⟨4, [], 97⟩, ⟨6, [45], 0⟩, ⟨4, [], 122⟩, X.tEnd] = [39, 92, 117, 123, 54, 49, 125, 32, 45, 32, 39, 92, 117, 123, 55, 65, 125] := by
  simp [X.tailP, X.one, X.codeB, X.tEnd]
  rw [show (max 0 (min (97 : Int) 1114111)).toNat = 97 from rfl, show (max 0 (min (122 : Int) 1114111)).toNat = 122 from rfl, X.hexd_61, X.hexd_7A]
  rfl
/-- A sign's cells. -/
theorem RdK.at {w : World} {ao : Option Addr} {l : List (X.Tk × Nat)} (h : RdK w ao l) (i : Nat) (hi : i < l.length) : ∃ b off, ao = some ⟨b, off, none⟩ ∧ w.cell? ⟨b, off + i * 4, none⟩ = some (.int .i64 (l[i].1.kind : Int)) ∧ w.cell? ⟨b, off + i * 4 + 1, none⟩ = some (.int .i64 (l[i].2 : Int)) ∧ w.cell? ⟨b, off + i * 4 + 2, none⟩ = some (.string ⟨l[i].1.text.toArray⟩) ∧ w.cell? ⟨b, off + i * 4 + 3, none⟩ = some (.int .i32 l[i].1.r) := h i hi
theorem AnsX.ok {l : List (X.Tk × Nat)} {B : Nat} {e : Ending} {w : World} (h : AnsX (.ok l) B e w) : ∃ v, e = .returned (.tuple #[v, .int .i64 0, .int .i64 0]) ∧ OwnK w B v l := by
  rcases h with ⟨l', v, h1, h2, h3⟩ | ⟨at_, h1, _⟩
  · cases h1; exact ⟨v, h2, h3⟩
  · cases h1
theorem AnsX.err {at_ B : Nat} {e : Ending} {w : World} (h : AnsX (.error at_) B e w) : e = .returned (.tuple #[.slice none 0 0, .int .i64 (at_ : Int), .int .i64 60]) := by
  rcases h with ⟨l', v, h1, _⟩ | ⟨a, h1, h2⟩
  · cases h1
  · cases h1; exact h2
set_option maxRecDepth 100000 in
set_option maxHeartbeats 1000000 in
theorem known_any (w : World) (ht : Tabs w) (hd : Deb w) : Calls Tryz.prog 4 #[] w fun e w' => e = .returned (.bool true) ∧ Below w.heap.size w w' := by
  have h1 := scan_lex ⟨#[39, 97, 45, 39, 122, 32, 35, 32, 110, 111]⟩ (by decide) w ht
  rw [show X.scan 0 (bts ⟨#[39, 97, 45, 39, 122, 32, 35, 32, 110, 111]⟩) = _ from X.ex_one] at h1
  go_enter Tryz.func4, Tryz.ntmps4
  go_wp2_with fail
  refine h1.mono ?_
  rintro e w1 ⟨ha, hb1⟩
  obtain ⟨v, rfl, hv⟩ := ha.ok
  clear h1 ha
  have h2 := scan_lex ⟨#[36, 120, 32, 64]⟩ (by decide) w1 (ht.later hb1)
  rw [show X.scan 0 (bts ⟨#[36, 120, 32, 64]⟩) = _ from X.ex_two] at h2
  go_wp2_with fail
  refine h2.mono ?_
  rintro e w2 ⟨ha, hb2⟩
  obtain rfl := ha.err
  clear h2 ha
  obtain ⟨ao, cap, rfl, hcap, _, hrd⟩ := hv.rd
  have hrd2 := hrd.later hb2
  have hbb := nx hb1 hb2
  have hp := print_lex ao cap _ (by simp) (by intro p hp; simp at hp; rcases hp with rfl | rfl | rfl | rfl <;> simp [okP, X.tEnd]) w2 hrd2 (hd.later hbb)
  rw [show List.map Prod.fst [((⟨4, [], 97⟩ : X.Tk), 0), (⟨6, [45], 0⟩, 2), (⟨4, [], 122⟩, 3), (X.tEnd, 10)] = [⟨4, [], 97⟩, ⟨6, [45], 0⟩, ⟨4, [], 122⟩, X.tEnd] from rfl, ex_tail] at hp
  obtain ⟨b, off, rfl, c0, _, _, c3⟩ := hrd2.at 0 (by simp)
  obtain ⟨b', off', e', d0, _, _, _⟩ := hrd2.at 3 (by simp)
  cases e'
  simp only [List.getElem_cons_zero, List.getElem_cons_succ, X.tEnd, Nat.zero_mul, Nat.add_zero, Nat.reduceMul, show ((4 : Nat) : Int) = 4 from rfl, show ((0 : Nat) : Int) = 0 from rfl] at c0 c3 d0
  obtain ⟨t, ht2⟩ : ∃ t : ByteArray, (⟨[39, 92, 117, 123, 54, 49, 125, 32, 45, 32, 39, 92, 117, 123, 55, 65, 125].toArray⟩ : ByteArray) = t := ⟨_, rfl⟩
  have htl : (t.toList == [39, 92, 117, 123, 54, 49, 125, 32, 45, 32, 39, 92, 117, 123, 55, 65, 125]) = true := by
    rw [← ht2, ByteArray.toList_eq]
    decide
  rw [ht2] at hp
  clear ht2 hrd hrd2 hv
  have hix := elemSize23
  have hl4 : [((⟨4, [], 97⟩ : X.Tk), 0), (⟨6, [45], 0⟩, 2), (⟨4, [], 122⟩, 3), (X.tEnd, 10)].length = 4 := rfl
  simp only [hl4] at hp hcap ⊢
  go_wp2_with fail
  refine hp.mono ?_
  rintro e w3 ⟨rfl, hb3⟩
  go_wp2
  go_ret
  exact ⟨rfl, nx hbb hb3⟩
end Go.Proofs.YtidpalighpdlfaaGreatDoor
