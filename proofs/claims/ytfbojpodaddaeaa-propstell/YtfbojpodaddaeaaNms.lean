/- The names and what they stand for: plain facts. -/
import Derived.Test.YtfbojpodaddaeaaRngs
namespace Go.Proofs.Ytfbojpodaddaeaa
open Go.RowKit Go.Shelf

def cAny : List UInt8 := [65, 110, 121]
def lAny : List S.R := [(0, 1114111)]
def cDigit : List UInt8 := [68, 105, 103, 105, 116]
def lDigit : List S.R := [(48, 57), (1632, 1641)]
def cUpper : List UInt8 := [85, 112, 112, 101, 114]
def lUpper : List S.R := [(65, 90), (192, 214), (216, 222)]
def cLower : List UInt8 := [76, 111, 119, 101, 114]
def lLower : List S.R := [(97, 122), (223, 246), (248, 255)]
def cLetter : List UInt8 := [76, 101, 116, 116, 101, 114]
def lLetter : List S.R := [(65, 90), (97, 122), (192, 214), (216, 246), (248, 255), (880, 1327)]
def cSpace : List UInt8 := [83, 112, 97, 99, 101]
def lSpace : List S.R := [(9, 13), (32, 32), (133, 133), (160, 160), (8192, 8202), (8232, 8233), (12288, 12288)]
def cMark : List UInt8 := [77, 97, 114, 107]
def lMark : List S.R := [(768, 879), (8205, 8205), (65024, 65039)]
def cPunct : List UInt8 := [80, 117, 110, 99, 116]
def lPunct : List S.R := [(33, 47), (58, 64), (91, 96), (123, 126), (8208, 8231)]
def cHan : List UInt8 := [72, 97, 110]
def lHan : List S.R := [(19968, 40959)]
def cKana : List UInt8 := [75, 97, 110, 97]
def lKana : List S.R := [(12352, 12543)]
def cEmoji : List UInt8 := [69, 109, 111, 106, 105]
def lEmoji : List S.R := [(127744, 129791)]
/-- What a name stands for. -/
def tl (s : List UInt8) : List S.R :=
  if (s == [65, 110, 121]) = true then [(0, 1114111)] else if (s == [68, 105, 103, 105, 116]) = true then [(48, 57), (1632, 1641)] else if (s == [85, 112, 112, 101, 114]) = true then [(65, 90), (192, 214), (216, 222)] else if (s == [76, 111, 119, 101, 114]) = true then [(97, 122), (223, 246), (248, 255)] else if (s == [76, 101, 116, 116, 101, 114]) = true then [(65, 90), (97, 122), (192, 214), (216, 246), (248, 255), (880, 1327)] else if (s == [83, 112, 97, 99, 101]) = true then [(9, 13), (32, 32), (133, 133), (160, 160), (8192, 8202), (8232, 8233), (12288, 12288)] else if (s == [77, 97, 114, 107]) = true then [(768, 879), (8205, 8205), (65024, 65039)] else if (s == [80, 117, 110, 99, 116]) = true then [(33, 47), (58, 64), (91, 96), (123, 126), (8208, 8231)] else if (s == [72, 97, 110]) = true then [(19968, 40959)] else if (s == [75, 97, 110, 97]) = true then [(12352, 12543)] else if (s == [69, 109, 111, 106, 105]) = true then [(127744, 129791)] else []
def kn (s : List UInt8) : Bool :=
  if (s == [65, 110, 121]) = true then true else if (s == [68, 105, 103, 105, 116]) = true then true else if (s == [85, 112, 112, 101, 114]) = true then true else if (s == [76, 111, 119, 101, 114]) = true then true else if (s == [76, 101, 116, 116, 101, 114]) = true then true else if (s == [83, 112, 97, 99, 101]) = true then true else if (s == [77, 97, 114, 107]) = true then true else if (s == [80, 117, 110, 99, 116]) = true then true else if (s == [72, 97, 110]) = true then true else if (s == [75, 97, 110, 97]) = true then true else if (s == [69, 109, 111, 106, 105]) = true then true else false
theorem tl_Any {s : List UInt8} (h0 : (s == [65, 110, 121]) = true) : tl s = [(0, 1114111)] ∧ kn s = true := by simp [tl, kn, h0]
theorem tl_Digit {s : List UInt8} (h0 : (s == [65, 110, 121]) = false) (h1 : (s == [68, 105, 103, 105, 116]) = true) : tl s = [(48, 57), (1632, 1641)] ∧ kn s = true := by simp [tl, kn, h0, h1]
theorem tl_Upper {s : List UInt8} (h0 : (s == [65, 110, 121]) = false) (h1 : (s == [68, 105, 103, 105, 116]) = false) (h2 : (s == [85, 112, 112, 101, 114]) = true) : tl s = [(65, 90), (192, 214), (216, 222)] ∧ kn s = true := by simp [tl, kn, h0, h1, h2]
theorem tl_Lower {s : List UInt8} (h0 : (s == [65, 110, 121]) = false) (h1 : (s == [68, 105, 103, 105, 116]) = false) (h2 : (s == [85, 112, 112, 101, 114]) = false) (h3 : (s == [76, 111, 119, 101, 114]) = true) : tl s = [(97, 122), (223, 246), (248, 255)] ∧ kn s = true := by simp [tl, kn, h0, h1, h2, h3]
theorem tl_Letter {s : List UInt8} (h0 : (s == [65, 110, 121]) = false) (h1 : (s == [68, 105, 103, 105, 116]) = false) (h2 : (s == [85, 112, 112, 101, 114]) = false) (h3 : (s == [76, 111, 119, 101, 114]) = false) (h4 : (s == [76, 101, 116, 116, 101, 114]) = true) : tl s = [(65, 90), (97, 122), (192, 214), (216, 246), (248, 255), (880, 1327)] ∧ kn s = true := by simp [tl, kn, h0, h1, h2, h3, h4]
theorem tl_Space {s : List UInt8} (h0 : (s == [65, 110, 121]) = false) (h1 : (s == [68, 105, 103, 105, 116]) = false) (h2 : (s == [85, 112, 112, 101, 114]) = false) (h3 : (s == [76, 111, 119, 101, 114]) = false) (h4 : (s == [76, 101, 116, 116, 101, 114]) = false) (h5 : (s == [83, 112, 97, 99, 101]) = true) : tl s = [(9, 13), (32, 32), (133, 133), (160, 160), (8192, 8202), (8232, 8233), (12288, 12288)] ∧ kn s = true := by simp [tl, kn, h0, h1, h2, h3, h4, h5]
theorem tl_Mark {s : List UInt8} (h0 : (s == [65, 110, 121]) = false) (h1 : (s == [68, 105, 103, 105, 116]) = false) (h2 : (s == [85, 112, 112, 101, 114]) = false) (h3 : (s == [76, 111, 119, 101, 114]) = false) (h4 : (s == [76, 101, 116, 116, 101, 114]) = false) (h5 : (s == [83, 112, 97, 99, 101]) = false) (h6 : (s == [77, 97, 114, 107]) = true) : tl s = [(768, 879), (8205, 8205), (65024, 65039)] ∧ kn s = true := by simp [tl, kn, h0, h1, h2, h3, h4, h5, h6]
theorem tl_Punct {s : List UInt8} (h0 : (s == [65, 110, 121]) = false) (h1 : (s == [68, 105, 103, 105, 116]) = false) (h2 : (s == [85, 112, 112, 101, 114]) = false) (h3 : (s == [76, 111, 119, 101, 114]) = false) (h4 : (s == [76, 101, 116, 116, 101, 114]) = false) (h5 : (s == [83, 112, 97, 99, 101]) = false) (h6 : (s == [77, 97, 114, 107]) = false) (h7 : (s == [80, 117, 110, 99, 116]) = true) : tl s = [(33, 47), (58, 64), (91, 96), (123, 126), (8208, 8231)] ∧ kn s = true := by simp [tl, kn, h0, h1, h2, h3, h4, h5, h6, h7]
theorem tl_Han {s : List UInt8} (h0 : (s == [65, 110, 121]) = false) (h1 : (s == [68, 105, 103, 105, 116]) = false) (h2 : (s == [85, 112, 112, 101, 114]) = false) (h3 : (s == [76, 111, 119, 101, 114]) = false) (h4 : (s == [76, 101, 116, 116, 101, 114]) = false) (h5 : (s == [83, 112, 97, 99, 101]) = false) (h6 : (s == [77, 97, 114, 107]) = false) (h7 : (s == [80, 117, 110, 99, 116]) = false) (h8 : (s == [72, 97, 110]) = true) : tl s = [(19968, 40959)] ∧ kn s = true := by simp [tl, kn, h0, h1, h2, h3, h4, h5, h6, h7, h8]
theorem tl_Kana {s : List UInt8} (h0 : (s == [65, 110, 121]) = false) (h1 : (s == [68, 105, 103, 105, 116]) = false) (h2 : (s == [85, 112, 112, 101, 114]) = false) (h3 : (s == [76, 111, 119, 101, 114]) = false) (h4 : (s == [76, 101, 116, 116, 101, 114]) = false) (h5 : (s == [83, 112, 97, 99, 101]) = false) (h6 : (s == [77, 97, 114, 107]) = false) (h7 : (s == [80, 117, 110, 99, 116]) = false) (h8 : (s == [72, 97, 110]) = false) (h9 : (s == [75, 97, 110, 97]) = true) : tl s = [(12352, 12543)] ∧ kn s = true := by simp [tl, kn, h0, h1, h2, h3, h4, h5, h6, h7, h8, h9]
theorem tl_Emoji {s : List UInt8} (h0 : (s == [65, 110, 121]) = false) (h1 : (s == [68, 105, 103, 105, 116]) = false) (h2 : (s == [85, 112, 112, 101, 114]) = false) (h3 : (s == [76, 111, 119, 101, 114]) = false) (h4 : (s == [76, 101, 116, 116, 101, 114]) = false) (h5 : (s == [83, 112, 97, 99, 101]) = false) (h6 : (s == [77, 97, 114, 107]) = false) (h7 : (s == [80, 117, 110, 99, 116]) = false) (h8 : (s == [72, 97, 110]) = false) (h9 : (s == [75, 97, 110, 97]) = false) (h10 : (s == [69, 109, 111, 106, 105]) = true) : tl s = [(127744, 129791)] ∧ kn s = true := by simp [tl, kn, h0, h1, h2, h3, h4, h5, h6, h7, h8, h9, h10]
theorem tl_no {s : List UInt8} (h0 : (s == [65, 110, 121]) = false) (h1 : (s == [68, 105, 103, 105, 116]) = false) (h2 : (s == [85, 112, 112, 101, 114]) = false) (h3 : (s == [76, 111, 119, 101, 114]) = false) (h4 : (s == [76, 101, 116, 116, 101, 114]) = false) (h5 : (s == [83, 112, 97, 99, 101]) = false) (h6 : (s == [77, 97, 114, 107]) = false) (h7 : (s == [80, 117, 110, 99, 116]) = false) (h8 : (s == [72, 97, 110]) = false) (h9 : (s == [75, 97, 110, 97]) = false) (h10 : (s == [69, 109, 111, 106, 105]) = false) : tl s = [] ∧ kn s = false := by simp [tl, kn, h0, h1, h2, h3, h4, h5, h6, h7, h8, h9, h10]
theorem rdr_row (w : World) (zs : List S.R) (T : TypeId) : RdR (w.alloc (.cells (cR zs).toArray T)) (some ⟨w.heap.size, 0, none⟩) zs := fun i hi => by
  have h := cR_arr zs i hi
  have hn := World.alloc_heap_new w (.cells (cR zs).toArray T)
  refine ⟨_, _, rfl, ?_, ?_⟩
  · rw [Nat.zero_add]; exact cell_at hn h.1
  · rw [Nat.zero_add]; exact cell_at hn h.2

set_option maxRecDepth 100000 in
set_option maxHeartbeats 4000000 in
theorem prop_Any (s : ByteArray) (w : World) (h0 : (s.toList == [65, 110, 121]) = true) : Calls Try.prog 10 #[.string s] w fun e W' => ∃ ao cap, e = .returned (.tuple #[.slice ao 1 cap, .bool true]) ∧ RdR W' ao [(0, 1114111)] ∧ Below w.heap.size w W' := by
  go_enter Try.func10, Try.ntmps10
  go_wp2
  go_ret2
  exact ⟨_, _, rfl, rdr_row w [(0, 1114111)] 40, al1 w _⟩
set_option maxRecDepth 100000 in
set_option maxHeartbeats 4000000 in
theorem prop_Digit (s : ByteArray) (w : World) (h0 : (s.toList == [65, 110, 121]) = false) (h1 : (s.toList == [68, 105, 103, 105, 116]) = true) : Calls Try.prog 10 #[.string s] w fun e W' => ∃ ao cap, e = .returned (.tuple #[.slice ao 2 cap, .bool true]) ∧ RdR W' ao [(48, 57), (1632, 1641)] ∧ Below w.heap.size w W' := by
  go_enter Try.func10, Try.ntmps10
  go_wp2
  go_ret2
  exact ⟨_, _, rfl, rdr_row w [(48, 57), (1632, 1641)] 40, al1 w _⟩
set_option maxRecDepth 100000 in
set_option maxHeartbeats 4000000 in
theorem prop_Upper (s : ByteArray) (w : World) (h0 : (s.toList == [65, 110, 121]) = false) (h1 : (s.toList == [68, 105, 103, 105, 116]) = false) (h2 : (s.toList == [85, 112, 112, 101, 114]) = true) : Calls Try.prog 10 #[.string s] w fun e W' => ∃ ao cap, e = .returned (.tuple #[.slice ao 3 cap, .bool true]) ∧ RdR W' ao [(65, 90), (192, 214), (216, 222)] ∧ Below w.heap.size w W' := by
  go_enter Try.func10, Try.ntmps10
  go_wp2
  go_ret2
  exact ⟨_, _, rfl, rdr_row w [(65, 90), (192, 214), (216, 222)] 40, al1 w _⟩
set_option maxRecDepth 100000 in
set_option maxHeartbeats 4000000 in
theorem prop_Lower (s : ByteArray) (w : World) (h0 : (s.toList == [65, 110, 121]) = false) (h1 : (s.toList == [68, 105, 103, 105, 116]) = false) (h2 : (s.toList == [85, 112, 112, 101, 114]) = false) (h3 : (s.toList == [76, 111, 119, 101, 114]) = true) : Calls Try.prog 10 #[.string s] w fun e W' => ∃ ao cap, e = .returned (.tuple #[.slice ao 3 cap, .bool true]) ∧ RdR W' ao [(97, 122), (223, 246), (248, 255)] ∧ Below w.heap.size w W' := by
  go_enter Try.func10, Try.ntmps10
  go_wp2
  go_ret2
  exact ⟨_, _, rfl, rdr_row w [(97, 122), (223, 246), (248, 255)] 40, al1 w _⟩
set_option maxRecDepth 100000 in
set_option maxHeartbeats 4000000 in
theorem prop_Space (s : ByteArray) (w : World) (h0 : (s.toList == [65, 110, 121]) = false) (h1 : (s.toList == [68, 105, 103, 105, 116]) = false) (h2 : (s.toList == [85, 112, 112, 101, 114]) = false) (h3 : (s.toList == [76, 111, 119, 101, 114]) = false) (h4 : (s.toList == [76, 101, 116, 116, 101, 114]) = false) (h5 : (s.toList == [83, 112, 97, 99, 101]) = true) : Calls Try.prog 10 #[.string s] w fun e W' => ∃ ao cap, e = .returned (.tuple #[.slice ao 7 cap, .bool true]) ∧ RdR W' ao [(9, 13), (32, 32), (133, 133), (160, 160), (8192, 8202), (8232, 8233), (12288, 12288)] ∧ Below w.heap.size w W' := by
  go_enter Try.func10, Try.ntmps10
  go_wp2
  go_ret2
  exact ⟨_, _, rfl, rdr_row w [(9, 13), (32, 32), (133, 133), (160, 160), (8192, 8202), (8232, 8233), (12288, 12288)] 40, al1 w _⟩
set_option maxRecDepth 100000 in
set_option maxHeartbeats 4000000 in
theorem prop_Mark (s : ByteArray) (w : World) (h0 : (s.toList == [65, 110, 121]) = false) (h1 : (s.toList == [68, 105, 103, 105, 116]) = false) (h2 : (s.toList == [85, 112, 112, 101, 114]) = false) (h3 : (s.toList == [76, 111, 119, 101, 114]) = false) (h4 : (s.toList == [76, 101, 116, 116, 101, 114]) = false) (h5 : (s.toList == [83, 112, 97, 99, 101]) = false) (h6 : (s.toList == [77, 97, 114, 107]) = true) : Calls Try.prog 10 #[.string s] w fun e W' => ∃ ao cap, e = .returned (.tuple #[.slice ao 3 cap, .bool true]) ∧ RdR W' ao [(768, 879), (8205, 8205), (65024, 65039)] ∧ Below w.heap.size w W' := by
  go_enter Try.func10, Try.ntmps10
  go_wp2
  go_ret2
  exact ⟨_, _, rfl, rdr_row w [(768, 879), (8205, 8205), (65024, 65039)] 40, al1 w _⟩
set_option maxRecDepth 100000 in
set_option maxHeartbeats 4000000 in
theorem prop_Punct (s : ByteArray) (w : World) (h0 : (s.toList == [65, 110, 121]) = false) (h1 : (s.toList == [68, 105, 103, 105, 116]) = false) (h2 : (s.toList == [85, 112, 112, 101, 114]) = false) (h3 : (s.toList == [76, 111, 119, 101, 114]) = false) (h4 : (s.toList == [76, 101, 116, 116, 101, 114]) = false) (h5 : (s.toList == [83, 112, 97, 99, 101]) = false) (h6 : (s.toList == [77, 97, 114, 107]) = false) (h7 : (s.toList == [80, 117, 110, 99, 116]) = true) : Calls Try.prog 10 #[.string s] w fun e W' => ∃ ao cap, e = .returned (.tuple #[.slice ao 5 cap, .bool true]) ∧ RdR W' ao [(33, 47), (58, 64), (91, 96), (123, 126), (8208, 8231)] ∧ Below w.heap.size w W' := by
  go_enter Try.func10, Try.ntmps10
  go_wp2
  go_ret2
  exact ⟨_, _, rfl, rdr_row w [(33, 47), (58, 64), (91, 96), (123, 126), (8208, 8231)] 40, al1 w _⟩
set_option maxRecDepth 100000 in
set_option maxHeartbeats 4000000 in
theorem prop_Han (s : ByteArray) (w : World) (h0 : (s.toList == [65, 110, 121]) = false) (h1 : (s.toList == [68, 105, 103, 105, 116]) = false) (h2 : (s.toList == [85, 112, 112, 101, 114]) = false) (h3 : (s.toList == [76, 111, 119, 101, 114]) = false) (h4 : (s.toList == [76, 101, 116, 116, 101, 114]) = false) (h5 : (s.toList == [83, 112, 97, 99, 101]) = false) (h6 : (s.toList == [77, 97, 114, 107]) = false) (h7 : (s.toList == [80, 117, 110, 99, 116]) = false) (h8 : (s.toList == [72, 97, 110]) = true) : Calls Try.prog 10 #[.string s] w fun e W' => ∃ ao cap, e = .returned (.tuple #[.slice ao 1 cap, .bool true]) ∧ RdR W' ao [(19968, 40959)] ∧ Below w.heap.size w W' := by
  go_enter Try.func10, Try.ntmps10
  go_wp2
  go_ret2
  exact ⟨_, _, rfl, rdr_row w [(19968, 40959)] 40, al1 w _⟩
set_option maxRecDepth 100000 in
set_option maxHeartbeats 4000000 in
theorem prop_Kana (s : ByteArray) (w : World) (h0 : (s.toList == [65, 110, 121]) = false) (h1 : (s.toList == [68, 105, 103, 105, 116]) = false) (h2 : (s.toList == [85, 112, 112, 101, 114]) = false) (h3 : (s.toList == [76, 111, 119, 101, 114]) = false) (h4 : (s.toList == [76, 101, 116, 116, 101, 114]) = false) (h5 : (s.toList == [83, 112, 97, 99, 101]) = false) (h6 : (s.toList == [77, 97, 114, 107]) = false) (h7 : (s.toList == [80, 117, 110, 99, 116]) = false) (h8 : (s.toList == [72, 97, 110]) = false) (h9 : (s.toList == [75, 97, 110, 97]) = true) : Calls Try.prog 10 #[.string s] w fun e W' => ∃ ao cap, e = .returned (.tuple #[.slice ao 1 cap, .bool true]) ∧ RdR W' ao [(12352, 12543)] ∧ Below w.heap.size w W' := by
  go_enter Try.func10, Try.ntmps10
  go_wp2
  go_ret2
  exact ⟨_, _, rfl, rdr_row w [(12352, 12543)] 40, al1 w _⟩
set_option maxRecDepth 100000 in
set_option maxHeartbeats 4000000 in
theorem prop_Emoji (s : ByteArray) (w : World) (h0 : (s.toList == [65, 110, 121]) = false) (h1 : (s.toList == [68, 105, 103, 105, 116]) = false) (h2 : (s.toList == [85, 112, 112, 101, 114]) = false) (h3 : (s.toList == [76, 111, 119, 101, 114]) = false) (h4 : (s.toList == [76, 101, 116, 116, 101, 114]) = false) (h5 : (s.toList == [83, 112, 97, 99, 101]) = false) (h6 : (s.toList == [77, 97, 114, 107]) = false) (h7 : (s.toList == [80, 117, 110, 99, 116]) = false) (h8 : (s.toList == [72, 97, 110]) = false) (h9 : (s.toList == [75, 97, 110, 97]) = false) (h10 : (s.toList == [69, 109, 111, 106, 105]) = true) : Calls Try.prog 10 #[.string s] w fun e W' => ∃ ao cap, e = .returned (.tuple #[.slice ao 1 cap, .bool true]) ∧ RdR W' ao [(127744, 129791)] ∧ Below w.heap.size w W' := by
  go_enter Try.func10, Try.ntmps10
  go_wp2
  go_ret2
  exact ⟨_, _, rfl, rdr_row w [(127744, 129791)] 40, al1 w _⟩
set_option maxRecDepth 100000 in
set_option maxHeartbeats 4000000 in
theorem prop_None (s : ByteArray) (w : World) (h0 : (s.toList == [65, 110, 121]) = false) (h1 : (s.toList == [68, 105, 103, 105, 116]) = false) (h2 : (s.toList == [85, 112, 112, 101, 114]) = false) (h3 : (s.toList == [76, 111, 119, 101, 114]) = false) (h4 : (s.toList == [76, 101, 116, 116, 101, 114]) = false) (h5 : (s.toList == [83, 112, 97, 99, 101]) = false) (h6 : (s.toList == [77, 97, 114, 107]) = false) (h7 : (s.toList == [80, 117, 110, 99, 116]) = false) (h8 : (s.toList == [72, 97, 110]) = false) (h9 : (s.toList == [75, 97, 110, 97]) = false) (h10 : (s.toList == [69, 109, 111, 106, 105]) = false) : Calls Try.prog 10 #[.string s] w fun e W' => ∃ ao cap, e = .returned (.tuple #[.slice ao 0 cap, .bool false]) ∧ RdR W' ao [] ∧ Below w.heap.size w W' := by
  go_enter Try.func10, Try.ntmps10
  go_wp2
  go_ret2
  exact ⟨_, _, rfl, rdr_nil _ _, Below.refl _ _⟩
end Go.Proofs.Ytfbojpodaddaeaa
