/- That the bodies of some functions of the library in this program are those that the library's contracts speak of; the contracts in this program's numbers: strings.Clone, LastIndexByte, ToUpper, ToLower, Join; slices.Contains at texts. -/
import Derived.Shelf.Strings.OnBuilder
import Derived.Shelf.Strconv.Clone
import Derived.Shelf.Strings.LastIndex
import Derived.Test.YtbeihgjonhgfmaaGreatDoorTga
namespace Go.Proofs.YtbeihgjonhgfmaaGreatDoor
open Go.Shelf Go.RowKit
def laysM316_ren : Go.Shelf.Ren := ⟨fun | 316 => 48 | n => n, fun | 9 => 9 | 3 => 3 | 4 => 4 | 37 => 54 | 0 => 0 | 127 => 109 | 5 => 5 | n => n, fun | n => n⟩
theorem laysM316 : Go.Proofs.LaysM.n316 Tryz.prog laysM316_ren := {
  mixed := by kernel_rfl
  f316 := Tryz.func48.trans (congrArg some (by kernel_rfl))
  t0 := Tryz.underlying0
  a0 := Tryz.isAgg0
  z0 := Tryz.sizeOf0
  v0 := Tryz.zeroValue0
  t3 := Tryz.underlying3
  a3 := Tryz.isAgg3
  z3 := Tryz.sizeOf3
  v3 := Tryz.zeroValue3
  t4 := Tryz.underlying4
  a4 := Tryz.isAgg4
  z4 := Tryz.sizeOf4
  v4 := Tryz.zeroValue4
  t9 := Tryz.underlying9
  a9 := Tryz.isAgg9
  z9 := Tryz.sizeOf9
  v9 := Tryz.zeroValue9
  t37 := Tryz.underlying54
  a37 := Tryz.isAgg54
  z37 := Tryz.sizeOf54
  v37 := Tryz.zeroValue54
  t127 := Tryz.underlying109
  a127 := Tryz.isAgg109
  z127 := Tryz.sizeOf109
  v127 := Tryz.zeroValue109
  t5 := Tryz.underlying5
  a5 := Tryz.isAgg5
  z5 := Tryz.sizeOf5
  v5 := Tryz.zeroValue5
  i0 := by kernel_rfl
  i3 := by kernel_rfl
  i4 := by kernel_rfl
  i5 := by kernel_rfl
  i9 := by kernel_rfl
  i37 := by kernel_rfl
  i127 := by kernel_rfl }
def lays149_ren : Go.Shelf.Ren := ⟨fun | 149 => 47 | 222 => 71 | n => n, fun | 9 => 9 | 5 => 5 | 3 => 3 | 4 => 4 | n => n, fun | n => n⟩
theorem lays149 : Go.Proofs.Lays.n149 Tryz.prog lays149_ren := {
  mixed := by kernel_rfl
  f149 := Tryz.func47.trans (congrArg some (by kernel_rfl))
  f222 := Tryz.func71.trans (congrArg some (by kernel_rfl))
  t3 := Tryz.underlying3
  a3 := Tryz.isAgg3
  z3 := Tryz.sizeOf3
  v3 := Tryz.zeroValue3
  t4 := Tryz.underlying4
  a4 := Tryz.isAgg4
  z4 := Tryz.sizeOf4
  v4 := Tryz.zeroValue4
  t5 := Tryz.underlying5
  a5 := Tryz.isAgg5
  z5 := Tryz.sizeOf5
  v5 := Tryz.zeroValue5
  t9 := Tryz.underlying9
  a9 := Tryz.isAgg9
  z9 := Tryz.sizeOf9
  v9 := Tryz.zeroValue9 }
def lays158_ren : Go.Shelf.Ren := ⟨fun | 158 => 67 | 165 => 68 | 166 => 69 | 167 => 94 | 169 => 70 | 230 => 95 | 203 => 97 | 240 => 98 | 241 => 99 | 197 => 58 | 118 => 109 | 168 => 110 | 270 => 111 | 262 => 112 | 276 => 113 | 277 => 114 | 260 => 83 | 242 => 127 | 313 => 128 | 278 => 136 | 274 => 84 | 275 => 85 | n => n, fun | 9 => 9 | 4 => 4 | 3 => 3 | 5 => 5 | 72 => 102 | 0 => 0 | 76 => 106 | 75 => 105 | 107 => 99 | 70 => 100 | 20 => 20 | 37 => 54 | 127 => 109 | 21 => 21 | 105 => 97 | 164 => 151 | 162 => 120 | 203 => 166 | 119 => 135 | 46 => 50 | 139 => 138 | 138 => 137 | 51 => 139 | 160 => 118 | 208 => 143 | 206 => 141 | 80 => 108 | n => n, fun | 13 => 2 | 3 => 4 | 4 => 5 | n => n⟩
theorem lays158 : Go.Proofs.Lays.n158 Tryz.prog lays158_ren := {
  mixed := by kernel_rfl
  f118 := Tryz.func109.trans (congrArg some (by kernel_rfl))
  f158 := Tryz.func67.trans (congrArg some (by kernel_rfl))
  f165 := Tryz.func68.trans (congrArg some (by kernel_rfl))
  f166 := Tryz.func69.trans (congrArg some (by kernel_rfl))
  f167 := Tryz.func94.trans (congrArg some (by kernel_rfl))
  f168 := Tryz.func110.trans (congrArg some (by kernel_rfl))
  f169 := Tryz.func70.trans (congrArg some (by kernel_rfl))
  f197 := Tryz.func58.trans (congrArg some (by kernel_rfl))
  f203 := Tryz.func97.trans (congrArg some (by kernel_rfl))
  f230 := Tryz.func95.trans (congrArg some (by kernel_rfl))
  f240 := Tryz.func98.trans (congrArg some (by kernel_rfl))
  f241 := Tryz.func99.trans (congrArg some (by kernel_rfl))
  f242 := Tryz.func127.trans (congrArg some (by kernel_rfl))
  f260 := Tryz.func83.trans (congrArg some (by kernel_rfl))
  f262 := Tryz.func112.trans (congrArg some (by kernel_rfl))
  f270 := Tryz.func111.trans (congrArg some (by kernel_rfl))
  f274 := Tryz.func84.trans (congrArg some (by kernel_rfl))
  f275 := Tryz.func85.trans (congrArg some (by kernel_rfl))
  f276 := Tryz.func113.trans (congrArg some (by kernel_rfl))
  f277 := Tryz.func114.trans (congrArg some (by kernel_rfl))
  f278 := Tryz.func136.trans (congrArg some (by kernel_rfl))
  f313 := Tryz.func128.trans (congrArg some (by kernel_rfl))
  t0 := Tryz.underlying0
  a0 := Tryz.isAgg0
  z0 := Tryz.sizeOf0
  v0 := Tryz.zeroValue0
  t3 := Tryz.underlying3
  a3 := Tryz.isAgg3
  z3 := Tryz.sizeOf3
  v3 := Tryz.zeroValue3
  t4 := Tryz.underlying4
  a4 := Tryz.isAgg4
  z4 := Tryz.sizeOf4
  v4 := Tryz.zeroValue4
  t5 := Tryz.underlying5
  a5 := Tryz.isAgg5
  z5 := Tryz.sizeOf5
  v5 := Tryz.zeroValue5
  t9 := Tryz.underlying9
  a9 := Tryz.isAgg9
  z9 := Tryz.sizeOf9
  v9 := Tryz.zeroValue9
  t20 := Tryz.underlying20
  a20 := Tryz.isAgg20
  z20 := Tryz.sizeOf20
  v20 := Tryz.zeroValue20
  t21 := Tryz.underlying21
  a21 := Tryz.isAgg21
  z21 := Tryz.sizeOf21
  v21 := Tryz.zeroValue21
  t37 := Tryz.underlying54
  a37 := Tryz.isAgg54
  z37 := Tryz.sizeOf54
  v37 := Tryz.zeroValue54
  t46 := Tryz.underlying50
  a46 := Tryz.isAgg50
  z46 := Tryz.sizeOf50
  v46 := Tryz.zeroValue50
  t51 := Tryz.underlying139
  a51 := Tryz.isAgg139
  z51 := Tryz.sizeOf139
  v51 := Tryz.zeroValue139
  t70 := Tryz.underlying100
  a70 := Tryz.isAgg100
  z70 := Tryz.sizeOf100
  v70 := Tryz.zeroValue100
  t72 := Tryz.underlying102
  a72 := Tryz.isAgg102
  z72 := Tryz.sizeOf102
  v72 := Tryz.zeroValue102
  t75 := Tryz.underlying105
  a75 := Tryz.isAgg105
  z75 := Tryz.sizeOf105
  v75 := Tryz.zeroValue105
  t76 := Tryz.underlying106
  a76 := Tryz.isAgg106
  z76 := Tryz.sizeOf106
  v76 := Tryz.zeroValue106
  t105 := Tryz.underlying97
  a105 := Tryz.isAgg97
  z105 := Tryz.sizeOf97
  v105 := Tryz.zeroValue97
  t107 := Tryz.underlying99
  a107 := Tryz.isAgg99
  z107 := Tryz.sizeOf99
  v107 := Tryz.zeroValue99
  t119 := Tryz.underlying135
  a119 := Tryz.isAgg135
  z119 := Tryz.sizeOf135
  t127 := Tryz.underlying109
  a127 := Tryz.isAgg109
  z127 := Tryz.sizeOf109
  v127 := Tryz.zeroValue109
  t138 := Tryz.underlying137
  a138 := Tryz.isAgg137
  z138 := Tryz.sizeOf137
  v138 := Tryz.zeroValue137
  t139 := Tryz.underlying138
  a139 := Tryz.isAgg138
  z139 := Tryz.sizeOf138
  v139 := Tryz.zeroValue138
  t160 := Tryz.underlying118
  a160 := Tryz.isAgg118
  z160 := Tryz.sizeOf118
  v160 := Tryz.zeroValue118
  t162 := Tryz.underlying120
  a162 := Tryz.isAgg120
  z162 := Tryz.sizeOf120
  v162 := Tryz.zeroValue120
  t164 := Tryz.underlying151
  a164 := Tryz.isAgg151
  z164 := Tryz.sizeOf151
  v164 := Tryz.zeroValue151
  t203 := Tryz.underlying166
  a203 := Tryz.isAgg166
  z203 := Tryz.sizeOf166
  v203 := Tryz.zeroValue166
  t206 := Tryz.underlying141
  a206 := Tryz.isAgg141
  z206 := Tryz.sizeOf141
  v206 := Tryz.zeroValue141
  t208 := Tryz.underlying143
  a208 := Tryz.isAgg143
  z208 := Tryz.sizeOf143
  v208 := Tryz.zeroValue143
  g3 := by kernel_rfl
  g4 := by kernel_rfl
  g13 := by kernel_rfl }
def lays159_ren : Go.Shelf.Ren := ⟨fun | 159 => 66 | 165 => 68 | 166 => 69 | 167 => 94 | 169 => 70 | 230 => 95 | 204 => 96 | 240 => 98 | 241 => 99 | 197 => 58 | 118 => 109 | 168 => 110 | 270 => 111 | 262 => 112 | 276 => 113 | 277 => 114 | 260 => 83 | 242 => 127 | 313 => 128 | 278 => 136 | 274 => 84 | 275 => 85 | n => n, fun | 9 => 9 | 4 => 4 | 3 => 3 | 5 => 5 | 72 => 102 | 0 => 0 | 76 => 106 | 75 => 105 | 107 => 99 | 70 => 100 | 20 => 20 | 37 => 54 | 127 => 109 | 21 => 21 | 105 => 97 | 164 => 151 | 162 => 120 | 203 => 166 | 119 => 135 | 46 => 50 | 139 => 138 | 138 => 137 | 51 => 139 | 160 => 118 | 208 => 143 | 206 => 141 | 80 => 108 | n => n, fun | 13 => 2 | 3 => 4 | 4 => 5 | n => n⟩
theorem lays159 : Go.Proofs.Lays.n159 Tryz.prog lays159_ren := {
  mixed := by kernel_rfl
  f118 := Tryz.func109.trans (congrArg some (by kernel_rfl))
  f159 := Tryz.func66.trans (congrArg some (by kernel_rfl))
  f165 := Tryz.func68.trans (congrArg some (by kernel_rfl))
  f166 := Tryz.func69.trans (congrArg some (by kernel_rfl))
  f167 := Tryz.func94.trans (congrArg some (by kernel_rfl))
  f168 := Tryz.func110.trans (congrArg some (by kernel_rfl))
  f169 := Tryz.func70.trans (congrArg some (by kernel_rfl))
  f197 := Tryz.func58.trans (congrArg some (by kernel_rfl))
  f204 := Tryz.func96.trans (congrArg some (by kernel_rfl))
  f230 := Tryz.func95.trans (congrArg some (by kernel_rfl))
  f240 := Tryz.func98.trans (congrArg some (by kernel_rfl))
  f241 := Tryz.func99.trans (congrArg some (by kernel_rfl))
  f242 := Tryz.func127.trans (congrArg some (by kernel_rfl))
  f260 := Tryz.func83.trans (congrArg some (by kernel_rfl))
  f262 := Tryz.func112.trans (congrArg some (by kernel_rfl))
  f270 := Tryz.func111.trans (congrArg some (by kernel_rfl))
  f274 := Tryz.func84.trans (congrArg some (by kernel_rfl))
  f275 := Tryz.func85.trans (congrArg some (by kernel_rfl))
  f276 := Tryz.func113.trans (congrArg some (by kernel_rfl))
  f277 := Tryz.func114.trans (congrArg some (by kernel_rfl))
  f278 := Tryz.func136.trans (congrArg some (by kernel_rfl))
  f313 := Tryz.func128.trans (congrArg some (by kernel_rfl))
  t0 := Tryz.underlying0
  a0 := Tryz.isAgg0
  z0 := Tryz.sizeOf0
  v0 := Tryz.zeroValue0
  t3 := Tryz.underlying3
  a3 := Tryz.isAgg3
  z3 := Tryz.sizeOf3
  v3 := Tryz.zeroValue3
  t4 := Tryz.underlying4
  a4 := Tryz.isAgg4
  z4 := Tryz.sizeOf4
  v4 := Tryz.zeroValue4
  t5 := Tryz.underlying5
  a5 := Tryz.isAgg5
  z5 := Tryz.sizeOf5
  v5 := Tryz.zeroValue5
  t9 := Tryz.underlying9
  a9 := Tryz.isAgg9
  z9 := Tryz.sizeOf9
  v9 := Tryz.zeroValue9
  t20 := Tryz.underlying20
  a20 := Tryz.isAgg20
  z20 := Tryz.sizeOf20
  v20 := Tryz.zeroValue20
  t21 := Tryz.underlying21
  a21 := Tryz.isAgg21
  z21 := Tryz.sizeOf21
  v21 := Tryz.zeroValue21
  t37 := Tryz.underlying54
  a37 := Tryz.isAgg54
  z37 := Tryz.sizeOf54
  v37 := Tryz.zeroValue54
  t46 := Tryz.underlying50
  a46 := Tryz.isAgg50
  z46 := Tryz.sizeOf50
  v46 := Tryz.zeroValue50
  t51 := Tryz.underlying139
  a51 := Tryz.isAgg139
  z51 := Tryz.sizeOf139
  v51 := Tryz.zeroValue139
  t70 := Tryz.underlying100
  a70 := Tryz.isAgg100
  z70 := Tryz.sizeOf100
  v70 := Tryz.zeroValue100
  t72 := Tryz.underlying102
  a72 := Tryz.isAgg102
  z72 := Tryz.sizeOf102
  v72 := Tryz.zeroValue102
  t75 := Tryz.underlying105
  a75 := Tryz.isAgg105
  z75 := Tryz.sizeOf105
  v75 := Tryz.zeroValue105
  t76 := Tryz.underlying106
  a76 := Tryz.isAgg106
  z76 := Tryz.sizeOf106
  v76 := Tryz.zeroValue106
  t105 := Tryz.underlying97
  a105 := Tryz.isAgg97
  z105 := Tryz.sizeOf97
  v105 := Tryz.zeroValue97
  t107 := Tryz.underlying99
  a107 := Tryz.isAgg99
  z107 := Tryz.sizeOf99
  v107 := Tryz.zeroValue99
  t119 := Tryz.underlying135
  a119 := Tryz.isAgg135
  z119 := Tryz.sizeOf135
  t127 := Tryz.underlying109
  a127 := Tryz.isAgg109
  z127 := Tryz.sizeOf109
  v127 := Tryz.zeroValue109
  t138 := Tryz.underlying137
  a138 := Tryz.isAgg137
  z138 := Tryz.sizeOf137
  v138 := Tryz.zeroValue137
  t139 := Tryz.underlying138
  a139 := Tryz.isAgg138
  z139 := Tryz.sizeOf138
  v139 := Tryz.zeroValue138
  t160 := Tryz.underlying118
  a160 := Tryz.isAgg118
  z160 := Tryz.sizeOf118
  v160 := Tryz.zeroValue118
  t162 := Tryz.underlying120
  a162 := Tryz.isAgg120
  z162 := Tryz.sizeOf120
  v162 := Tryz.zeroValue120
  t164 := Tryz.underlying151
  a164 := Tryz.isAgg151
  z164 := Tryz.sizeOf151
  v164 := Tryz.zeroValue151
  t203 := Tryz.underlying166
  a203 := Tryz.isAgg166
  z203 := Tryz.sizeOf166
  v203 := Tryz.zeroValue166
  t206 := Tryz.underlying141
  a206 := Tryz.isAgg141
  z206 := Tryz.sizeOf141
  v206 := Tryz.zeroValue141
  t208 := Tryz.underlying143
  a208 := Tryz.isAgg143
  z208 := Tryz.sizeOf143
  v208 := Tryz.zeroValue143
  g3 := by kernel_rfl
  g4 := by kernel_rfl
  g13 := by kernel_rfl }
def lays156_ren : Go.Shelf.Ren := ⟨fun | 156 => 46 | 165 => 68 | 166 => 69 | 169 => 70 | 240 => 98 | 241 => 99 | 276 => 113 | 277 => 114 | n => n, fun | 31 => 30 | 9 => 9 | 3 => 3 | 4 => 4 | 0 => 0 | 20 => 20 | 72 => 102 | 76 => 106 | 70 => 100 | 37 => 54 | 75 => 105 | 127 => 109 | 164 => 151 | 5 => 5 | 80 => 108 | n => n, fun | n => n⟩
theorem lays156 : Go.Proofs.Lays.n156 Tryz.prog lays156_ren := {
  mixed := by kernel_rfl
  f156 := Tryz.func46.trans (congrArg some (by kernel_rfl))
  f165 := Tryz.func68.trans (congrArg some (by kernel_rfl))
  f166 := Tryz.func69.trans (congrArg some (by kernel_rfl))
  f169 := Tryz.func70.trans (congrArg some (by kernel_rfl))
  f240 := Tryz.func98.trans (congrArg some (by kernel_rfl))
  f241 := Tryz.func99.trans (congrArg some (by kernel_rfl))
  f276 := Tryz.func113.trans (congrArg some (by kernel_rfl))
  f277 := Tryz.func114.trans (congrArg some (by kernel_rfl))
  t0 := Tryz.underlying0
  a0 := Tryz.isAgg0
  z0 := Tryz.sizeOf0
  v0 := Tryz.zeroValue0
  t3 := Tryz.underlying3
  a3 := Tryz.isAgg3
  z3 := Tryz.sizeOf3
  v3 := Tryz.zeroValue3
  t4 := Tryz.underlying4
  a4 := Tryz.isAgg4
  z4 := Tryz.sizeOf4
  v4 := Tryz.zeroValue4
  t9 := Tryz.underlying9
  a9 := Tryz.isAgg9
  z9 := Tryz.sizeOf9
  v9 := Tryz.zeroValue9
  t20 := Tryz.underlying20
  a20 := Tryz.isAgg20
  z20 := Tryz.sizeOf20
  v20 := Tryz.zeroValue20
  t31 := Tryz.underlying30
  a31 := Tryz.isAgg30
  z31 := Tryz.sizeOf30
  v31 := Tryz.zeroValue30
  t37 := Tryz.underlying54
  a37 := Tryz.isAgg54
  z37 := Tryz.sizeOf54
  v37 := Tryz.zeroValue54
  t70 := Tryz.underlying100
  a70 := Tryz.isAgg100
  z70 := Tryz.sizeOf100
  v70 := Tryz.zeroValue100
  t72 := Tryz.underlying102
  a72 := Tryz.isAgg102
  z72 := Tryz.sizeOf102
  v72 := Tryz.zeroValue102
  t75 := Tryz.underlying105
  a75 := Tryz.isAgg105
  z75 := Tryz.sizeOf105
  v75 := Tryz.zeroValue105
  t76 := Tryz.underlying106
  a76 := Tryz.isAgg106
  z76 := Tryz.sizeOf106
  v76 := Tryz.zeroValue106
  t127 := Tryz.underlying109
  a127 := Tryz.isAgg109
  z127 := Tryz.sizeOf109
  v127 := Tryz.zeroValue109
  t164 := Tryz.underlying151
  a164 := Tryz.isAgg151
  z164 := Tryz.sizeOf151
  v164 := Tryz.zeroValue151 }
theorem Builder_Extra_158 : Builder.Extra Tryz.prog lays158_ren := {
  sizeBuilder := by kernel_rfl
  liesBuilder := by kernel_rfl
  t5 := Tryz.underlying5
  a5 := Tryz.isAgg5
  z5 := Tryz.sizeOf5
  v5 := Tryz.zeroValue5
  infoByte := by kernel_rfl
  cellsByte := by kernel_rfl
  sizeByte := by kernel_rfl
  neB5 := by decide }
theorem Builder_Extra_159 : Builder.Extra Tryz.prog lays159_ren := {
  sizeBuilder := by kernel_rfl
  liesBuilder := by kernel_rfl
  t5 := Tryz.underlying5
  a5 := Tryz.isAgg5
  z5 := Tryz.sizeOf5
  v5 := Tryz.zeroValue5
  infoByte := by kernel_rfl
  cellsByte := by kernel_rfl
  sizeByte := by kernel_rfl
  neB5 := by decide }
theorem Builder_Extra_156 : Builder.Extra Tryz.prog lays156_ren := {
  sizeBuilder := by kernel_rfl
  liesBuilder := by kernel_rfl
  t5 := Tryz.underlying5
  a5 := Tryz.isAgg5
  z5 := Tryz.sizeOf5
  v5 := Tryz.zeroValue5
  infoByte := by kernel_rfl
  cellsByte := by kernel_rfl
  sizeByte := by kernel_rfl
  neB5 := by decide }

theorem lowerB_eq (c : UInt8) : Lib.lowerB c = G.lo c := by
  have := G.all_u8 (fun c => Lib.lowerB c == G.lo c) (by decide +kernel) c
  simpa using this
theorem upperB_eq (c : UInt8) : Lib.upperB c = G.up c := by
  have := G.all_u8 (fun c => Lib.upperB c == G.up c) (by decide +kernel) c
  simpa using this
theorem ascii_of {s : ByteArray} (h : ∀ c ∈ bts s, c.toNat < 128) : ∀ (j : Nat) (b : UInt8), s.data.toList[j]? = some b → b.toNat < 128 := fun _ b hb => h b (List.mem_of_getElem? hb)
theorem lower_any (s : ByteArray) (hs : s.size ≤ 100000) (h : ∀ c ∈ bts s, c.toNat < 128) (w : World) : Calls Tryz.prog 66 #[.string s] w fun e w' => e = .returned (.string ⟨((bts s).map G.lo).toArray⟩) ∧ Below w.heap.size w w' := by
  have := Any.strings_ToLower_ascii lays159 Builder_Extra_159 s w (by omega) (ascii_of h)
  unfold Lib.toLowerA at this
  rw [show Lib.lowerB = G.lo from funext lowerB_eq] at this
  exact this
theorem upper_any (s : ByteArray) (hs : s.size ≤ 100000) (h : ∀ c ∈ bts s, c.toNat < 128) (w : World) : Calls Tryz.prog 67 #[.string s] w fun e w' => e = .returned (.string ⟨((bts s).map G.up).toArray⟩) ∧ Below w.heap.size w w' := by
  have := Any.strings_ToUpper_ascii lays158 Builder_Extra_158 s w (by omega) (ascii_of h)
  unfold Lib.toUpperA at this
  rw [show Lib.upperB = G.up from funext upperB_eq] at this
  exact this
theorem clone_any (s : ByteArray) (hs : s.size ≤ 100000) (w : World) : Calls Tryz.prog 28 #[.string s] w fun e w' => e = .returned (.string s) ∧ Below w.heap.size w w' := by
  have hc : Calls Tryz.prog 48 #[.string s] w fun e w' => e = .returned (.string s) ∧ Below w.heap.size w w' := Any.stringslite_Clone laysM316 s w (by omega)
  go_enter Tryz.func28, Tryz.ntmps28
  go_wp2_with fail
  refine hc.mono ?_
  rintro e w' ⟨rfl, hb⟩
  go_wp2
  go_ret
  exact ⟨rfl, hb⟩
/-- A text of bytes, as a value. -/
abbrev tx (l : List UInt8) : Value := .string ⟨l.toArray⟩
theorem bts_tx (l : List UInt8) : bts ⟨l.toArray⟩ = l := rfl
theorem mk_bts (s : ByteArray) : (⟨(bts s).toArray⟩ : ByteArray) = s := rfl
theorem sz_tx (l : List UInt8) : (⟨l.toArray⟩ : ByteArray).size = l.length := by show l.toArray.size = _; simp
theorem join_lib : ∀ (ps : List (List UInt8)), Lib.join ps [45] = G.join ps
  | [] => rfl
  | [x] => Lib.join_one x [45]
  | x :: y :: ps => by
    have := join_lib (y :: ps)
    rw [G.join_cons (by simp), ← this, Lib.join_cons, Lib.join_cons]
    simp [Lib.joinTail]
/-- The slice reads as these texts. -/
def RdT (w : World) (ao : Option Addr) (ss : List (List UInt8)) : Prop := ∀ i (h : i < ss.length), ∃ b off, ao = some ⟨b, off, none⟩ ∧ b < w.heap.size ∧ w.cell? ⟨b, off + i, none⟩ = some (tx ss[i])
theorem joinC_any (w : World) (ao : Option Addr) (cap : Nat) (ps : List (List UInt8)) (hr : RdT w ao ps) (hc : ps.length ≤ cap) (hl : ps.length ≤ 1000) (hj : (G.join ps).length ≤ 100000) :
    Calls Tryz.prog 46 #[.slice ao ps.length cap, .string ⟨#[45]⟩] w fun e w' => e = .returned (tx (G.join ps)) ∧ Below w.heap.size w w' := by
  cases ps with
  | nil =>
    refine (show Calls Tryz.prog 46 #[.slice ao 0 cap, .string ⟨#[45]⟩] w _ from Any.strings_Join_none lays156 Builder_Extra_156 ao cap ⟨#[45]⟩ w).mono ?_
    rintro e w' ⟨rfl, rfl⟩
    exact ⟨rfl, Below.refl _ _⟩
  | cons p ps =>
    obtain ⟨b, off, rfl, hbs, _⟩ := hr 0 (by simp)
    have hm : ((p :: ps).map fun l => (⟨l.toArray⟩ : ByteArray)).map (·.data.toList) = p :: ps := by simp [Function.comp_def]
    have := Any.strings_Join lays156 Builder_Extra_156 b off cap ((p :: ps).map fun l => ⟨l.toArray⟩) ⟨#[45]⟩ w ?_ hbs (by rw [List.length_map]; omega) (by rw [List.length_map]; exact hc) (by
      rw [hm, show (⟨#[45]⟩ : ByteArray).data.toList = [45] from rfl, join_lib]; omega)
    · rw [hm, show (⟨#[45]⟩ : ByteArray).data.toList = [45] from rfl, join_lib, List.length_map] at this
      exact this
    · intro j x hx
      rw [List.getElem?_map] at hx
      obtain ⟨y, hy, rfl⟩ := Option.map_eq_some_iff.1 hx
      obtain ⟨hj2, rfl⟩ := List.getElem?_eq_some_iff.1 hy
      obtain ⟨b', off', e, _, h3⟩ := hr j hj2
      cases e
      exact h3
end Go.Proofs.YtbeihgjonhgfmaaGreatDoor
