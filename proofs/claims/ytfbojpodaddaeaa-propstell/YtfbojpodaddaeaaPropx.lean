/- The reference's Prop. -/
import Derived.Test.YtfbojpodaddaeaaLett
namespace Go.Proofs.Ytfbojpodaddaeaa
open Go.RowKit Go.Shelf

theorem letter_all : S.set (([(65, 90), (192, 214), (216, 222)] ++ [(97, 122), (223, 246), (248, 255)]) ++ [(880, 1023), (1024, 1327)]) = [(65, 90), (97, 122), (192, 214), (216, 246), (248, 255), (880, 1327)] :=
  (S.set_eq (canon_by (by decide) (by decide)) (fun p => by simp [S.hs, S.goods, S.good, S.has]; omega)).symm
set_option maxRecDepth 100000 in
set_option maxHeartbeats 4000000 in
theorem prop_Letter (s : ByteArray) (w : World) (h0 : (s.toList == [65, 110, 121]) = false) (h1 : (s.toList == [68, 105, 103, 105, 116]) = false) (h2 : (s.toList == [85, 112, 112, 101, 114]) = false) (h3 : (s.toList == [76, 111, 119, 101, 114]) = false) (h4 : (s.toList == [76, 101, 116, 116, 101, 114]) = true) : Calls Try.prog 10 #[.string s] w fun e W' => ∃ ao cap, e = .returned (.tuple #[.slice ao 6 cap, .bool true]) ∧ RdR W' ao [(65, 90), (97, 122), (192, 214), (216, 246), (248, 255), (880, 1327)] ∧ Below w.heap.size w W' := by
  go_enter Try.func10, Try.ntmps10
  go_wp2_with fail
  refine (letters_any w).mono ?_
  rintro e w1 ⟨u, rfl, ho, hb1⟩
  obtain ⟨a1, c1, rfl, _, _, hr1⟩ := ho.rd
  have hof := refOf_any a1 c1 (([(65, 90), (192, 214), (216, 222)] ++ [(97, 122), (223, 246), (248, 255)]) ++ [(880, 1023), (1024, 1327)]) (by decide) w1 hr1
  rw [letter_all] at hof
  go_wp2_with fail
  refine hof.mono ?_
  rintro e w2 ⟨a2, c2, rfl, hr2, _, hb2⟩
  go_wp2
  go_ret2
  exact ⟨a2, c2, rfl, hr2, nx hb1 hb2⟩
theorem prop_any (s : ByteArray) (w : World) : Calls Try.prog 10 #[.string s] w fun e W' => ∃ ao cap, e = .returned (.tuple #[.slice ao (tl s.toList).length cap, .bool (kn s.toList)]) ∧ RdR W' ao (tl s.toList) ∧ Below w.heap.size w W' := by
  cases h0 : (s.toList == [65, 110, 121]) with
  | true =>
    have ht := @tl_Any s.toList h0
    rw [ht.1, ht.2]
    exact prop_Any s w h0
  | false =>
    cases h1 : (s.toList == [68, 105, 103, 105, 116]) with
    | true =>
      have ht := @tl_Digit s.toList h0 h1
      rw [ht.1, ht.2]
      exact prop_Digit s w h0 h1
    | false =>
      cases h2 : (s.toList == [85, 112, 112, 101, 114]) with
      | true =>
        have ht := @tl_Upper s.toList h0 h1 h2
        rw [ht.1, ht.2]
        exact prop_Upper s w h0 h1 h2
      | false =>
        cases h3 : (s.toList == [76, 111, 119, 101, 114]) with
        | true =>
          have ht := @tl_Lower s.toList h0 h1 h2 h3
          rw [ht.1, ht.2]
          exact prop_Lower s w h0 h1 h2 h3
        | false =>
          cases h4 : (s.toList == [76, 101, 116, 116, 101, 114]) with
          | true =>
            have ht := @tl_Letter s.toList h0 h1 h2 h3 h4
            rw [ht.1, ht.2]
            exact prop_Letter s w h0 h1 h2 h3 h4
          | false =>
            cases h5 : (s.toList == [83, 112, 97, 99, 101]) with
            | true =>
              have ht := @tl_Space s.toList h0 h1 h2 h3 h4 h5
              rw [ht.1, ht.2]
              exact prop_Space s w h0 h1 h2 h3 h4 h5
            | false =>
              cases h6 : (s.toList == [77, 97, 114, 107]) with
              | true =>
                have ht := @tl_Mark s.toList h0 h1 h2 h3 h4 h5 h6
                rw [ht.1, ht.2]
                exact prop_Mark s w h0 h1 h2 h3 h4 h5 h6
              | false =>
                cases h7 : (s.toList == [80, 117, 110, 99, 116]) with
                | true =>
                  have ht := @tl_Punct s.toList h0 h1 h2 h3 h4 h5 h6 h7
                  rw [ht.1, ht.2]
                  exact prop_Punct s w h0 h1 h2 h3 h4 h5 h6 h7
                | false =>
                  cases h8 : (s.toList == [72, 97, 110]) with
                  | true =>
                    have ht := @tl_Han s.toList h0 h1 h2 h3 h4 h5 h6 h7 h8
                    rw [ht.1, ht.2]
                    exact prop_Han s w h0 h1 h2 h3 h4 h5 h6 h7 h8
                  | false =>
                    cases h9 : (s.toList == [75, 97, 110, 97]) with
                    | true =>
                      have ht := @tl_Kana s.toList h0 h1 h2 h3 h4 h5 h6 h7 h8 h9
                      rw [ht.1, ht.2]
                      exact prop_Kana s w h0 h1 h2 h3 h4 h5 h6 h7 h8 h9
                    | false =>
                      cases h10 : (s.toList == [69, 109, 111, 106, 105]) with
                      | true =>
                        have ht := @tl_Emoji s.toList h0 h1 h2 h3 h4 h5 h6 h7 h8 h9 h10
                        rw [ht.1, ht.2]
                        exact prop_Emoji s w h0 h1 h2 h3 h4 h5 h6 h7 h8 h9 h10
                      | false =>
                        have ht := @tl_no s.toList h0 h1 h2 h3 h4 h5 h6 h7 h8 h9 h10
                        rw [ht.1, ht.2]
                        exact prop_None s w h0 h1 h2 h3 h4 h5 h6 h7 h8 h9 h10
end Go.Proofs.Ytfbojpodaddaeaa
