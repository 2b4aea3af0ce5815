/- Signs: lines and comments; the document's own examples. -/
import Derived.Test.YtidpalighpdlfaaGreatDoorLexe
namespace Go.Proofs.YtidpalighpdlfaaGreatDoor
namespace X
open M

/-- A line feed, the beginning of a comment, a name. -/
def piece (x : Nat) : List UInt8 := if x = 0 then [10] else if x = 1 then [32, 35] else [32, 36, 97]
def txt (l : List Nat) : List UInt8 := l.flatMap piece
def nLine : List Nat → Nat
  | [] => 0
  | x :: l => (if x = 0 then 1 else 0) + nLine l
/-- The names that no comment hides; h: a comment hides what comes. -/
def nName : Bool → List Nat → Nat
  | _, [] => 0
  | h, x :: l => if x = 0 then nName false l else if x = 1 then nName true l else (if h then 0 else 1) + nName h l
def cnt (k : Nat) (l : List (Tk × Nat)) : Nat := (l.filter fun p => p.1.kind == k).length
theorem cnt_cons (k : Nat) (p : Tk × Nat) (l : List (Tk × Nat)) : cnt k (p :: l) = (if p.1.kind = k then 1 else 0) + cnt k l := by
  unfold cnt
  by_cases h : p.1.kind = k
  · rw [List.filter_cons_of_pos (by simp [h]), if_pos h, List.length_cons]; omega
  · rw [List.filter_cons_of_neg (by simp [h]), if_neg h]; omega
theorem txt_cons (x : Nat) (l : List Nat) : txt (x :: l) = piece x ++ txt l := by simp [txt]
theorem txt_stop : ∀ l, Stop (txt l)
  | [] => .inl rfl
  | x :: l => by
    rw [txt_cons]
    unfold piece
    split
    · exact .inr ⟨10, _, rfl, by decide⟩
    · split
      · exact .inr ⟨32, _, rfl, by decide⟩
      · exact .inr ⟨32, _, rfl, by decide⟩
def rest (u : List UInt8) : List UInt8 := u.drop (u.takeWhile (· ≠ 10)).length
theorem rest_skip {c : UInt8} (u : List UInt8) (h : c ≠ 10) : rest (c :: u) = rest u := by
  unfold rest
  rw [List.takeWhile_cons_of_pos (by simpa using h)]
  simp
theorem rest_feed (u : List UInt8) : rest (10 :: u) = 10 :: u := by
  unfold rest
  rw [List.takeWhile_cons_of_neg (by simp)]
  rfl
theorem lines_both : ∀ (l : List Nat), (∀ at_, ∃ ts, scan at_ (txt l) = .ok ts ∧ cnt 7 ts = nLine l ∧ cnt 1 ts = nName false l) ∧ (∀ at_, ∃ ts, scan at_ (rest (txt l)) = .ok ts ∧ cnt 7 ts = nLine l ∧ cnt 1 ts = nName true l)
  | [] => ⟨fun at_ => ⟨_, scan_nil at_, rfl, rfl⟩, fun at_ => ⟨_, scan_nil at_, rfl, rfl⟩⟩
  | x :: l => by
    obtain ⟨ihA, ihB⟩ := lines_both l
    rw [txt_cons]
    by_cases h0 : x = 0
    · subst h0
      have key : ∀ at_, ∃ ts, scan at_ (10 :: txt l) = .ok ts ∧ cnt 7 ts = nLine (0 :: l) ∧ cnt 1 ts = nName false l := fun at_ => by
        obtain ⟨ts, h1, h2, h3⟩ := ihA (at_ + 1)
        refine ⟨(⟨7, [], 0⟩, at_) :: ts, ?_, ?_, ?_⟩
        · rw [scan_some at_ _ (by decide) (by decide) (next_line _), List.drop_succ_cons, List.drop_zero, h1]
          rfl
        · rw [cnt_cons, h2]; simp [nLine]
        · rw [cnt_cons, h3]; simp
      refine ⟨fun at_ => ?_, fun at_ => ?_⟩
      · obtain ⟨ts, h1, h2, h3⟩ := key at_
        exact ⟨ts, h1, h2, by rw [h3]; simp [nName]⟩
      · obtain ⟨ts, h1, h2, h3⟩ := key at_
        refine ⟨ts, ?_, h2, by rw [h3]; simp [nName]⟩
        show scan at_ (rest (10 :: txt l)) = _
        rw [rest_feed]
        exact h1
    · by_cases h1 : x = 1
      · subst h1
        refine ⟨fun at_ => ?_, fun at_ => ?_⟩
        · obtain ⟨ts, h1, h2, h3⟩ := ihB (at_ + 1 + ((35 :: txt l).takeWhile (· ≠ 10)).length)
          refine ⟨ts, ?_, by rw [h2]; simp [nLine], by rw [h3]; simp [nName]⟩
          show scan at_ (32 :: 35 :: txt l) = _
          rw [scan_blank at_ _ (by decide), scan_com]
          have e : (35 :: txt l).drop ((35 :: txt l).takeWhile (· ≠ 10)).length = rest (txt l) := rest_skip (c := 35) (txt l) (by decide)
          rw [e]
          exact h1
        · obtain ⟨ts, h1, h2, h3⟩ := ihB at_
          refine ⟨ts, ?_, by rw [h2]; simp [nLine], by rw [h3]; simp [nName]⟩
          show scan at_ (rest (32 :: 35 :: txt l)) = _
          rw [rest_skip _ (by decide), rest_skip _ (by decide)]
          exact h1
      · have hp : piece x = [32, 36, 97] := by unfold piece; rw [if_neg h0, if_neg h1]
        rw [hp]
        refine ⟨fun at_ => ?_, fun at_ => ?_⟩
        · obtain ⟨ts, h2, h3, h4⟩ := ihA (at_ + 1 + 2)
          have hn : nextL (36 :: 97 :: txt l) = some (⟨1, [97], 0⟩, 2) := next_ext (s := [36, 97]) (v := txt l) (by decide) (txt_stop l)
          refine ⟨(⟨1, [97], 0⟩, at_ + 1) :: ts, ?_, ?_, ?_⟩
          · show scan at_ (32 :: 36 :: 97 :: txt l) = _
            rw [scan_blank at_ _ (by decide), scan_some _ _ (by decide) (by decide) hn, List.drop_succ_cons, List.drop_succ_cons, List.drop_zero, h2]
            rfl
          · rw [cnt_cons, h3]; simp [nLine, h0]
          · rw [cnt_cons, h4]; simp [nName, h0, h1]
        · obtain ⟨ts, h2, h3, h4⟩ := ihB at_
          refine ⟨ts, ?_, by rw [h3]; simp [nLine, h0], by rw [h4]; simp [nName, h0, h1]⟩
          show scan at_ (rest (32 :: 36 :: 97 :: txt l)) = _
          rw [rest_skip _ (by decide), rest_skip _ (by decide), rest_skip _ (by decide)]
          exact h2
/- The examples. -/
theorem ex_one : scan 0 [39, 97, 45, 39, 122, 32, 35, 32, 110, 111] = .ok [(⟨4, [], 97⟩, 0), (⟨6, [45], 0⟩, 2), (⟨4, [], 122⟩, 3), (tEnd, 10)] := rfl
theorem ex_two : scan 0 [36, 120, 32, 64] = .error 3 := rfl
theorem hexd_61 : hexd 97 = [54, 49] := by rw [hexd_big (by decide), hexd_small (by decide)]; rfl
theorem hexd_7A : hexd 122 = [55, 65] := by rw [hexd_big (by decide), hexd_small (by decide)]; rfl
theorem ex_print : printL [⟨4, [], 97⟩, ⟨6, [45], 0⟩, ⟨4, [], 122⟩, tEnd] = [39, 92, 117, 123, 54, 49, 125, 32, 45, 32, 39, 92, 117, 123, 55, 65, 125] := by
  have e1 : one ⟨4, [], 97⟩ = some [39, 92, 117, 123, 54, 49, 125] := by
    show some (codeB 97) = _
    unfold codeB
    rw [hexd_61]
    rfl
  have e2 : one ⟨4, [], 122⟩ = some [39, 92, 117, 123, 55, 65, 125] := by
    show some (codeB 122) = _
    unfold codeB
    rw [hexd_7A]
    rfl
  have s1 : prF [] ⟨4, [], 97⟩ = [39, 92, 117, 123, 54, 49, 125] := by unfold prF; rw [if_neg (by decide), e1]; rfl
  have s3 : prF [39, 92, 117, 123, 54, 49, 125, 32, 45] ⟨4, [], 122⟩ = [39, 92, 117, 123, 54, 49, 125, 32, 45, 32, 39, 92, 117, 123, 55, 65, 125] := by unfold prF; rw [if_neg (by decide), e2]; rfl
  show prF (prF (prF (prF [] ⟨4, [], 97⟩) ⟨6, [45], 0⟩) ⟨4, [], 122⟩) tEnd = _
  rw [s1, show prF [39, 92, 117, 123, 54, 49, 125] ⟨6, [45], 0⟩ = [39, 92, 117, 123, 54, 49, 125, 32, 45] from rfl, s3]
  rfl
end X
end Go.Proofs.YtidpalighpdlfaaGreatDoor
