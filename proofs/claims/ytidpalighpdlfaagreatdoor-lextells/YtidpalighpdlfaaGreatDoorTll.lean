/- What LexTells says: the walk. -/
import Derived.Test.YtidpalighpdlfaaGreatDoorRe
namespace Go.Proofs.YtidpalighpdlfaaGreatDoor
open Go.RowKit

theorem AnsS.ok {l : List (X.Tk × Nat)} {B : Nat} {e : Ending} {w : World} (h : AnsS (.ok l) B e w) : ∃ v, e = .returned (.tuple #[v, .int .i64 0, .bool true]) ∧ OwnK w B v l := by
  rcases h with ⟨l', v, h1, h2, h3⟩ | ⟨at_, h1, _⟩
  · cases h1; exact ⟨v, h2, h3⟩
  · cases h1
theorem AnsS.err {at_ B : Nat} {e : Ending} {w : World} (h : AnsS (.error at_) B e w) : e = .returned (.tuple #[.slice none 0 0, .int .i64 (at_ : Int), .bool false]) := by
  rcases h with ⟨l', v, h1, _⟩ | ⟨a, h1, h2⟩
  · cases h1
  · cases h1; exact h2
theorem print_both {s : List UInt8} {l : List (X.Tk × Nat)} (h : X.scan 0 s = .ok l) : X.printL (l.map Prod.fst) = X.tailP false (l.map Prod.fst) := by
  obtain ⟨l', rfl, h1, _⟩ := (X.scan_out 0 s).1 l h
  unfold X.printL
  rw [X.print_tail _ (fun t ht => ?_) []]
  · rfl
  · obtain ⟨p, hp, rfl⟩ := List.mem_map.1 ht
    rcases List.mem_append.1 hp with hp | hp
    · exact .inl (h1 p hp).1
    · simp at hp; rw [hp]; exact .inr rfl
theorem str_self (s : ByteArray) : (s.toList == s.toList) = true := by simp
set_option maxRecDepth 100000 in
set_option maxHeartbeats 1000000 in
theorem tells_any (s : ByteArray) (w : World) (ht : Tabs w) (hd : Deb w) : Calls Tryz.prog 3 #[.string s] w fun e w' => e = .returned (.bool true) ∧ Below w.heap.size w w' := by
  have hk := known_any w ht hd
  by_cases h6 : 600 < s.size
  · have g1 : decide ((600 : Int) < (s.size : Int)) = true := decide_eq_true (by omega)
    go_enter Tryz.func3, Tryz.ntmps3
    go_wp2_with fail
    refine hk.mono ?_
    rintro e w1 ⟨rfl, hb1⟩
    go_wp2
    go_ret
    exact ⟨rfl, hb1⟩
  have g1 : decide ((600 : Int) < (s.size : Int)) = false := decide_eq_false (by omega)
  have hs1 := scan_lex s (by omega)
  have hs2 := scan_any s (by omega)
  cases hsc : X.scan 0 (bts s) with
  | error a =>
    rw [hsc] at hs1 hs2
    have HS1 := hide hs1
    have HS2 := hide hs2
    have hsm := fun W => same_any none none 0 0 [] [] (by simp) W (fun i h => absurd h (by simp)) (fun i h => absurd h (by simp))
    have HSM := hide hsm
    clear hs1 hs2 hsc hsm
    go_enter Tryz.func3, Tryz.ntmps3
    go_wp2_with fail
    refine hk.mono ?_
    rintro e w1 ⟨rfl, hb1⟩
    go_wp2_with fail
    refine (HS1.out _ (ht.later hb1)).mono ?_
    rintro e w2 ⟨ha, hb2⟩
    obtain rfl := ha.err
    have hbb := nx hb1 hb2
    clear ha
    go_wp2_with fail
    refine (HS2.out _).mono ?_
    rintro e w3 ⟨ha, hb3⟩
    obtain rfl := ha.err
    have hbc := nx hbb hb3
    clear ha
    go_wp2_with fail
    refine (HSM.out _).mono ?_
    rintro e w4 ⟨⟨bb, rfl, hbt⟩, hb4⟩
    obtain rfl := hbt.2 (by first | rfl | trivial)
    have hbd := nx hbc hb4
    clear hbt
    go_wp2
    go_ret
    exact ⟨rfl, hbd⟩
  | ok l =>
    rw [hsc] at hs1 hs2
    have hsz := X.scan_sizes 0 (bts s) l hsc
    rw [bts_len] at hsz
    have hok : ∀ p ∈ l, okP p.1 := fun p hp => by
      have := hsz.2 p hp
      exact ⟨by omega, fun _ => this.2⟩
    have hok2 : ∀ p ∈ l, okT p.1 := fun p hp => by
      have := hsz.2 p hp
      exact ⟨by omega, by omega, by omega⟩
    have hp1 := fun ao cap W => print_lex ao cap l (by omega) hok W
    have hp2 := fun ao cap W => print_any ao cap l (by omega) hok2 W
    rw [print_both hsc] at hp2
    obtain ⟨q, hq⟩ : ∃ q : ByteArray, ⟨(X.tailP false (l.map Prod.fst)).toArray⟩ = q := ⟨_, rfl⟩
    rw [hq] at hp1 hp2
    have hsm := fun ao bo ca cb W => same_any ao bo ca cb l l (by omega) W
    have HS1 := hide hs1
    have HS2 := hide hs2
    have HP1 := hide hp1
    have HP2 := hide hp2
    have HSM := hide hsm
    have hss := str_self q
    have hsl := hsz.1
    clear hs1 hs2 hp1 hp2 hsm hsc hq hok hok2 hsz
    go_enter Tryz.func3, Tryz.ntmps3
    go_wp2_with fail
    refine hk.mono ?_
    rintro e w1 ⟨rfl, hb1⟩
    go_wp2_with fail
    refine (HS1.out _ (ht.later hb1)).mono ?_
    rintro e w2 ⟨ha, hb2⟩
    obtain ⟨v1, rfl, hv1⟩ := ha.ok
    have hbb := nx hb1 hb2
    obtain ⟨ao1, cap1, rfl, _, _, hr1⟩ := hv1.rd
    clear ha hk hv1
    go_wp2_with fail
    refine (HS2.out _).mono ?_
    rintro e w3 ⟨ha, hb3⟩
    obtain ⟨v2, rfl, hv2⟩ := ha.ok
    have hbc := nx hbb hb3
    obtain ⟨ao2, cap2, rfl, _, _, hr2⟩ := hv2.rd
    have hr1 := hr1.later hb3
    clear ha hv2
    go_wp2_with fail
    refine (HSM.out ao1 ao2 cap1 cap2 _ hr1 hr2).mono ?_
    rintro e w4 ⟨⟨bb, rfl, hbt⟩, hb4⟩
    obtain rfl := hbt.2 (by first | rfl | trivial)
    have hbd := nx hbc hb4
    have hr1 := hr1.later hb4
    have hr2 := hr2.later hb4
    clear hbt
    go_wp2_with fail
    refine (HP1.out ao1 cap1 _ hr1 (hd.later hbd)).mono ?_
    rintro e w5 ⟨rfl, hb5⟩
    have hbe := nx hbd hb5
    have hr2 := hr2.later hb5
    go_wp2_with fail
    refine (HP2.out ao2 cap2 _ hr2).mono ?_
    rintro e w6 ⟨rfl, hb6⟩
    have hbf := nx hbe hb6
    go_wp2
    go_ret
    exact ⟨rfl, hbf⟩
end Go.Proofs.YtidpalighpdlfaaGreatDoor
