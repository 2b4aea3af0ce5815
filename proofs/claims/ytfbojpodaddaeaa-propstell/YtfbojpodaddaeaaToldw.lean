/- told, but for Letter. -/
import Derived.Test.YtfbojpodaddaeaaNms
import Derived.Test.YtfbojpodaddaeaaFace
namespace Go.Proofs.Ytfbojpodaddaeaa
open Go.RowKit Go.Shelf

set_option maxRecDepth 100000 in
set_option maxHeartbeats 4000000 in
theorem told_Any (s : ByteArray) (w : World) (h0 : (s.toList == [65, 110, 121]) = true) : Calls Try.prog 19 #[.string s] w (Res w [(0, 1114111)]) := by
  go_enter Try.func19, Try.ntmps19
  go_wp2_with fail
  refine (rangesOf_any w.heap.size 2 [(0, 1114111)] rfl (by decide) _ (World.alloc_heap_new w _)).mono ?_
  rintro e w1 ⟨u, rfl, ho, hb⟩
  obtain ⟨a1, c1, rfl, _, hn1, hr1⟩ := ho.rd
  go_wp2
  go_ret
  exact ⟨a1, c1, rfl, hr1, hn1, nx (al1 w _) hb⟩
set_option maxRecDepth 100000 in
set_option maxHeartbeats 4000000 in
theorem told_Digit (s : ByteArray) (w : World) (h0 : (s.toList == [65, 110, 121]) = false) (h1 : (s.toList == [68, 105, 103, 105, 116]) = true) : Calls Try.prog 19 #[.string s] w (Res w [(48, 57), (1632, 1641)]) := by
  go_enter Try.func19, Try.ntmps19
  go_wp2_with fail
  refine (rangesOf_any w.heap.size 4 [(48, 57), (1632, 1641)] rfl (by decide) _ (World.alloc_heap_new w _)).mono ?_
  rintro e w1 ⟨u, rfl, ho, hb⟩
  obtain ⟨a1, c1, rfl, _, hn1, hr1⟩ := ho.rd
  go_wp2
  go_ret
  exact ⟨a1, c1, rfl, hr1, hn1, nx (al1 w _) hb⟩
set_option maxRecDepth 100000 in
set_option maxHeartbeats 4000000 in
theorem told_Upper (s : ByteArray) (w : World) (h0 : (s.toList == [65, 110, 121]) = false) (h1 : (s.toList == [68, 105, 103, 105, 116]) = false) (h2 : (s.toList == [85, 112, 112, 101, 114]) = true) : Calls Try.prog 19 #[.string s] w (Res w [(65, 90), (192, 214), (216, 222)]) := by
  go_enter Try.func19, Try.ntmps19
  go_wp2_with fail
  refine (rangesOf_any w.heap.size 6 [(65, 90), (192, 214), (216, 222)] rfl (by decide) _ (World.alloc_heap_new w _)).mono ?_
  rintro e w1 ⟨u, rfl, ho, hb⟩
  obtain ⟨a1, c1, rfl, _, hn1, hr1⟩ := ho.rd
  go_wp2
  go_ret
  exact ⟨a1, c1, rfl, hr1, hn1, nx (al1 w _) hb⟩
set_option maxRecDepth 100000 in
set_option maxHeartbeats 4000000 in
theorem told_Lower (s : ByteArray) (w : World) (h0 : (s.toList == [65, 110, 121]) = false) (h1 : (s.toList == [68, 105, 103, 105, 116]) = false) (h2 : (s.toList == [85, 112, 112, 101, 114]) = false) (h3 : (s.toList == [76, 111, 119, 101, 114]) = true) : Calls Try.prog 19 #[.string s] w (Res w [(97, 122), (223, 246), (248, 255)]) := by
  go_enter Try.func19, Try.ntmps19
  go_wp2_with fail
  refine (rangesOf_any w.heap.size 6 [(97, 122), (223, 246), (248, 255)] rfl (by decide) _ (World.alloc_heap_new w _)).mono ?_
  rintro e w1 ⟨u, rfl, ho, hb⟩
  obtain ⟨a1, c1, rfl, _, hn1, hr1⟩ := ho.rd
  go_wp2
  go_ret
  exact ⟨a1, c1, rfl, hr1, hn1, nx (al1 w _) hb⟩
set_option maxRecDepth 100000 in
set_option maxHeartbeats 4000000 in
theorem told_Space (s : ByteArray) (w : World) (h0 : (s.toList == [65, 110, 121]) = false) (h1 : (s.toList == [68, 105, 103, 105, 116]) = false) (h2 : (s.toList == [85, 112, 112, 101, 114]) = false) (h3 : (s.toList == [76, 111, 119, 101, 114]) = false) (h4 : (s.toList == [76, 101, 116, 116, 101, 114]) = false) (h5 : (s.toList == [83, 112, 97, 99, 101]) = true) : Calls Try.prog 19 #[.string s] w (Res w [(9, 13), (32, 32), (133, 133), (160, 160), (8192, 8202), (8232, 8233), (12288, 12288)]) := by
  go_enter Try.func19, Try.ntmps19
  go_wp2_with fail
  refine (rangesOf_any w.heap.size 14 [(9, 13), (32, 32), (133, 133), (160, 160), (8192, 8202), (8232, 8233), (12288, 12288)] rfl (by decide) _ (World.alloc_heap_new w _)).mono ?_
  rintro e w1 ⟨u, rfl, ho, hb⟩
  obtain ⟨a1, c1, rfl, _, hn1, hr1⟩ := ho.rd
  go_wp2
  go_ret
  exact ⟨a1, c1, rfl, hr1, hn1, nx (al1 w _) hb⟩
set_option maxRecDepth 100000 in
set_option maxHeartbeats 4000000 in
theorem told_Mark (s : ByteArray) (w : World) (h0 : (s.toList == [65, 110, 121]) = false) (h1 : (s.toList == [68, 105, 103, 105, 116]) = false) (h2 : (s.toList == [85, 112, 112, 101, 114]) = false) (h3 : (s.toList == [76, 111, 119, 101, 114]) = false) (h4 : (s.toList == [76, 101, 116, 116, 101, 114]) = false) (h5 : (s.toList == [83, 112, 97, 99, 101]) = false) (h6 : (s.toList == [77, 97, 114, 107]) = true) : Calls Try.prog 19 #[.string s] w (Res w [(768, 879), (8205, 8205), (65024, 65039)]) := by
  go_enter Try.func19, Try.ntmps19
  go_wp2_with fail
  refine (rangesOf_any w.heap.size 6 [(768, 879), (8205, 8205), (65024, 65039)] rfl (by decide) _ (World.alloc_heap_new w _)).mono ?_
  rintro e w1 ⟨u, rfl, ho, hb⟩
  obtain ⟨a1, c1, rfl, _, hn1, hr1⟩ := ho.rd
  go_wp2
  go_ret
  exact ⟨a1, c1, rfl, hr1, hn1, nx (al1 w _) hb⟩
set_option maxRecDepth 100000 in
set_option maxHeartbeats 4000000 in
theorem told_Punct (s : ByteArray) (w : World) (h0 : (s.toList == [65, 110, 121]) = false) (h1 : (s.toList == [68, 105, 103, 105, 116]) = false) (h2 : (s.toList == [85, 112, 112, 101, 114]) = false) (h3 : (s.toList == [76, 111, 119, 101, 114]) = false) (h4 : (s.toList == [76, 101, 116, 116, 101, 114]) = false) (h5 : (s.toList == [83, 112, 97, 99, 101]) = false) (h6 : (s.toList == [77, 97, 114, 107]) = false) (h7 : (s.toList == [80, 117, 110, 99, 116]) = true) : Calls Try.prog 19 #[.string s] w (Res w [(33, 47), (58, 64), (91, 96), (123, 126), (8208, 8231)]) := by
  go_enter Try.func19, Try.ntmps19
  go_wp2_with fail
  refine (rangesOf_any w.heap.size 10 [(33, 47), (58, 64), (91, 96), (123, 126), (8208, 8231)] rfl (by decide) _ (World.alloc_heap_new w _)).mono ?_
  rintro e w1 ⟨u, rfl, ho, hb⟩
  obtain ⟨a1, c1, rfl, _, hn1, hr1⟩ := ho.rd
  go_wp2
  go_ret
  exact ⟨a1, c1, rfl, hr1, hn1, nx (al1 w _) hb⟩
set_option maxRecDepth 100000 in
set_option maxHeartbeats 4000000 in
theorem told_Han (s : ByteArray) (w : World) (h0 : (s.toList == [65, 110, 121]) = false) (h1 : (s.toList == [68, 105, 103, 105, 116]) = false) (h2 : (s.toList == [85, 112, 112, 101, 114]) = false) (h3 : (s.toList == [76, 111, 119, 101, 114]) = false) (h4 : (s.toList == [76, 101, 116, 116, 101, 114]) = false) (h5 : (s.toList == [83, 112, 97, 99, 101]) = false) (h6 : (s.toList == [77, 97, 114, 107]) = false) (h7 : (s.toList == [80, 117, 110, 99, 116]) = false) (h8 : (s.toList == [72, 97, 110]) = true) : Calls Try.prog 19 #[.string s] w (Res w [(19968, 40959)]) := by
  go_enter Try.func19, Try.ntmps19
  go_wp2_with fail
  refine (rangesOf_any w.heap.size 2 [(19968, 40959)] rfl (by decide) _ (World.alloc_heap_new w _)).mono ?_
  rintro e w1 ⟨u, rfl, ho, hb⟩
  obtain ⟨a1, c1, rfl, _, hn1, hr1⟩ := ho.rd
  go_wp2
  go_ret
  exact ⟨a1, c1, rfl, hr1, hn1, nx (al1 w _) hb⟩
set_option maxRecDepth 100000 in
set_option maxHeartbeats 4000000 in
theorem told_Kana (s : ByteArray) (w : World) (h0 : (s.toList == [65, 110, 121]) = false) (h1 : (s.toList == [68, 105, 103, 105, 116]) = false) (h2 : (s.toList == [85, 112, 112, 101, 114]) = false) (h3 : (s.toList == [76, 111, 119, 101, 114]) = false) (h4 : (s.toList == [76, 101, 116, 116, 101, 114]) = false) (h5 : (s.toList == [83, 112, 97, 99, 101]) = false) (h6 : (s.toList == [77, 97, 114, 107]) = false) (h7 : (s.toList == [80, 117, 110, 99, 116]) = false) (h8 : (s.toList == [72, 97, 110]) = false) (h9 : (s.toList == [75, 97, 110, 97]) = true) : Calls Try.prog 19 #[.string s] w (Res w [(12352, 12543)]) := by
  go_enter Try.func19, Try.ntmps19
  go_wp2_with fail
  refine (rangesOf_any w.heap.size 2 [(12352, 12543)] rfl (by decide) _ (World.alloc_heap_new w _)).mono ?_
  rintro e w1 ⟨u, rfl, ho, hb⟩
  obtain ⟨a1, c1, rfl, _, hn1, hr1⟩ := ho.rd
  go_wp2
  go_ret
  exact ⟨a1, c1, rfl, hr1, hn1, nx (al1 w _) hb⟩
set_option maxRecDepth 100000 in
set_option maxHeartbeats 4000000 in
theorem told_Emoji (s : ByteArray) (w : World) (h0 : (s.toList == [65, 110, 121]) = false) (h1 : (s.toList == [68, 105, 103, 105, 116]) = false) (h2 : (s.toList == [85, 112, 112, 101, 114]) = false) (h3 : (s.toList == [76, 111, 119, 101, 114]) = false) (h4 : (s.toList == [76, 101, 116, 116, 101, 114]) = false) (h5 : (s.toList == [83, 112, 97, 99, 101]) = false) (h6 : (s.toList == [77, 97, 114, 107]) = false) (h7 : (s.toList == [80, 117, 110, 99, 116]) = false) (h8 : (s.toList == [72, 97, 110]) = false) (h9 : (s.toList == [75, 97, 110, 97]) = false) (h10 : (s.toList == [69, 109, 111, 106, 105]) = true) : Calls Try.prog 19 #[.string s] w (Res w [(127744, 129791)]) := by
  go_enter Try.func19, Try.ntmps19
  go_wp2_with fail
  refine (rangesOf_any w.heap.size 2 [(127744, 129791)] rfl (by decide) _ (World.alloc_heap_new w _)).mono ?_
  rintro e w1 ⟨u, rfl, ho, hb⟩
  obtain ⟨a1, c1, rfl, _, hn1, hr1⟩ := ho.rd
  go_wp2
  go_ret
  exact ⟨a1, c1, rfl, hr1, hn1, nx (al1 w _) hb⟩
set_option maxRecDepth 100000 in
set_option maxHeartbeats 4000000 in
theorem told_None (s : ByteArray) (w : World) (h0 : (s.toList == [65, 110, 121]) = false) (h1 : (s.toList == [68, 105, 103, 105, 116]) = false) (h2 : (s.toList == [85, 112, 112, 101, 114]) = false) (h3 : (s.toList == [76, 111, 119, 101, 114]) = false) (h4 : (s.toList == [76, 101, 116, 116, 101, 114]) = false) (h5 : (s.toList == [83, 112, 97, 99, 101]) = false) (h6 : (s.toList == [77, 97, 114, 107]) = false) (h7 : (s.toList == [80, 117, 110, 99, 116]) = false) (h8 : (s.toList == [72, 97, 110]) = false) (h9 : (s.toList == [75, 97, 110, 97]) = false) (h10 : (s.toList == [69, 109, 111, 106, 105]) = false) : Calls Try.prog 19 #[.string s] w (Res w []) := by
  go_enter Try.func19, Try.ntmps19
  go_wp2
  go_ret
  exact ⟨none, 0, rfl, rdr_nil _ _, fun _ => rfl, Below.refl _ _⟩
theorem canon_by {l : List S.R} (h : l.all S.good = true) (h2 : l.Pairwise fun a b => a.2 + 1 < b.1) : S.Canon l := ⟨fun r hr => List.all_eq_true.1 h r hr, h2⟩
theorem letter_one : S.set ([(65, 90), (192, 214), (216, 222)] ++ [(97, 122), (223, 246), (248, 255)]) = [(65, 90), (97, 122), (192, 214), (216, 246), (248, 255)] :=
  (S.set_eq (canon_by (by decide) (by decide)) (fun p => by simp [S.hs, S.goods, S.good, S.has]; omega)).symm
theorem letter_two : S.set ([(65, 90), (97, 122), (192, 214), (216, 246), (248, 255)] ++ [(880, 1023), (1024, 1327)]) = [(65, 90), (97, 122), (192, 214), (216, 246), (248, 255), (880, 1327)] :=
  (S.set_eq (canon_by (by decide) (by decide)) (fun p => by simp [S.hs, S.goods, S.good, S.has]; omega)).symm
set_option maxRecDepth 100000 in
set_option maxHeartbeats 4000000 in
theorem told_Letter (s : ByteArray) (w : World) (h0 : (s.toList == [65, 110, 121]) = false) (h1 : (s.toList == [68, 105, 103, 105, 116]) = false) (h2 : (s.toList == [85, 112, 112, 101, 114]) = false) (h3 : (s.toList == [76, 111, 119, 101, 114]) = false) (h4 : (s.toList == [76, 101, 116, 116, 101, 114]) = true) : Calls Try.prog 19 #[.string s] w (Res w [(65, 90), (97, 122), (192, 214), (216, 246), (248, 255), (880, 1327)]) := by
  go_enter Try.func19, Try.ntmps19
  go_wp2_with fail
  refine (told_Upper ⟨#[85, 112, 112, 101, 114]⟩ w (by rw [ByteArray.toList_eq]; decide) (by rw [ByteArray.toList_eq]; decide) (by rw [ByteArray.toList_eq]; decide)).mono ?_
  rintro e w1 ⟨a1, c1, rfl, hr1, _, hb1⟩
  go_wp2_with fail
  refine (told_Lower ⟨#[76, 111, 119, 101, 114]⟩ w1 (by rw [ByteArray.toList_eq]; decide) (by rw [ByteArray.toList_eq]; decide) (by rw [ByteArray.toList_eq]; decide) (by rw [ByteArray.toList_eq]; decide)).mono ?_
  rintro e w2 ⟨a2, c2, rfl, hr2, _, hb2⟩
  have hu := union_any a1 a2 c1 c2 [(65, 90), (192, 214), (216, 222)] [(97, 122), (223, 246), (248, 255)] (by decide) w2 (hr1.later hb2) hr2
  rw [letter_one] at hu
  go_wp2_with fail
  refine hu.mono ?_
  rintro e w3 ⟨a3, c3, rfl, hr3, _, hb3⟩
  clear hu
  go_wp2_with fail
  refine (rangesOf_any w3.heap.size 4 [(880, 1023), (1024, 1327)] rfl (by decide) _ (World.alloc_heap_new w3 _)).mono ?_
  rintro e w4 ⟨u, rfl, ho, hb⟩
  obtain ⟨a4, c4, rfl, _, hn4, hr4⟩ := ho.rd
  have hb4 := nx (al1 w3 _) hb
  have hu := union_any a3 a4 c3 c4 [(65, 90), (97, 122), (192, 214), (216, 246), (248, 255)] [(880, 1023), (1024, 1327)] (by decide) w4 (hr3.later hb4) hr4
  rw [letter_two] at hu
  go_wp2_with fail
  refine hu.mono ?_
  rintro e w5 ⟨a5, c5, rfl, hr5, hn5, hb5⟩
  go_wp2
  go_ret
  exact ⟨a5, c5, rfl, hr5, hn5, nx (nx (nx (nx hb1 hb2) hb3) hb4) hb5⟩
/-- told: what the name stands for. -/
theorem told_any (s : ByteArray) (w : World) : Calls Try.prog 19 #[.string s] w (Res w (tl s.toList)) := by
  cases h0 : (s.toList == [65, 110, 121]) with
  | true =>
    have ht := @tl_Any s.toList h0
    rw [ht.1]
    exact told_Any s w h0
  | false =>
    cases h1 : (s.toList == [68, 105, 103, 105, 116]) with
    | true =>
      have ht := @tl_Digit s.toList h0 h1
      rw [ht.1]
      exact told_Digit s w h0 h1
    | false =>
      cases h2 : (s.toList == [85, 112, 112, 101, 114]) with
      | true =>
        have ht := @tl_Upper s.toList h0 h1 h2
        rw [ht.1]
        exact told_Upper s w h0 h1 h2
      | false =>
        cases h3 : (s.toList == [76, 111, 119, 101, 114]) with
        | true =>
          have ht := @tl_Lower s.toList h0 h1 h2 h3
          rw [ht.1]
          exact told_Lower s w h0 h1 h2 h3
        | false =>
          cases h4 : (s.toList == [76, 101, 116, 116, 101, 114]) with
          | true =>
            have ht := @tl_Letter s.toList h0 h1 h2 h3 h4
            rw [ht.1]
            exact told_Letter s w h0 h1 h2 h3 h4
          | false =>
            cases h5 : (s.toList == [83, 112, 97, 99, 101]) with
            | true =>
              have ht := @tl_Space s.toList h0 h1 h2 h3 h4 h5
              rw [ht.1]
              exact told_Space s w h0 h1 h2 h3 h4 h5
            | false =>
              cases h6 : (s.toList == [77, 97, 114, 107]) with
              | true =>
                have ht := @tl_Mark s.toList h0 h1 h2 h3 h4 h5 h6
                rw [ht.1]
                exact told_Mark s w h0 h1 h2 h3 h4 h5 h6
              | false =>
                cases h7 : (s.toList == [80, 117, 110, 99, 116]) with
                | true =>
                  have ht := @tl_Punct s.toList h0 h1 h2 h3 h4 h5 h6 h7
                  rw [ht.1]
                  exact told_Punct s w h0 h1 h2 h3 h4 h5 h6 h7
                | false =>
                  cases h8 : (s.toList == [72, 97, 110]) with
                  | true =>
                    have ht := @tl_Han s.toList h0 h1 h2 h3 h4 h5 h6 h7 h8
                    rw [ht.1]
                    exact told_Han s w h0 h1 h2 h3 h4 h5 h6 h7 h8
                  | false =>
                    cases h9 : (s.toList == [75, 97, 110, 97]) with
                    | true =>
                      have ht := @tl_Kana s.toList h0 h1 h2 h3 h4 h5 h6 h7 h8 h9
                      rw [ht.1]
                      exact told_Kana s w h0 h1 h2 h3 h4 h5 h6 h7 h8 h9
                    | false =>
                      cases h10 : (s.toList == [69, 109, 111, 106, 105]) with
                      | true =>
                        have ht := @tl_Emoji s.toList h0 h1 h2 h3 h4 h5 h6 h7 h8 h9 h10
                        rw [ht.1]
                        exact told_Emoji s w h0 h1 h2 h3 h4 h5 h6 h7 h8 h9 h10
                      | false =>
                        have ht := @tl_no s.toList h0 h1 h2 h3 h4 h5 h6 h7 h8 h9 h10
                        rw [ht.1]
                        exact told_None s w h0 h1 h2 h3 h4 h5 h6 h7 h8 h9 h10
end Go.Proofs.Ytfbojpodaddaeaa
