/- That the bodies of some functions of the library in this program are those that the library's contracts speak of; the contracts in this program's numbers: strings.Clone, LastIndexByte, ToUpper, ToLower, Join; slices.Contains at texts. -/
import Derived.Shelf.Strings.OnBuilder
import Derived.Shelf.Strconv.Clone
import Derived.Shelf.Strings.LastIndex
import Derived.Test.YtdbidfphpnkkhaaDoorTga
namespace Go.Proofs.YtdbidfphpnkkhaaDoor
open Go.Shelf Go.RowKit
def laysM316_ren : Go.Shelf.Ren := ⟨fun | 316 => 43 | n => n, fun | 9 => 9 | 3 => 3 | 4 => 4 | 37 => 36 | 0 => 0 | 127 => 82 | 5 => 5 | n => n, fun | n => n⟩
theorem laysM316 : Go.Proofs.LaysM.n316 Tryd.prog laysM316_ren := {
  mixed := by kernel_rfl
  f316 := Tryd.func43.trans (congrArg some (by kernel_rfl))
  t0 := Tryd.underlying0
  a0 := Tryd.isAgg0
  z0 := Tryd.sizeOf0
  v0 := Tryd.zeroValue0
  t3 := Tryd.underlying3
  a3 := Tryd.isAgg3
  z3 := Tryd.sizeOf3
  v3 := Tryd.zeroValue3
  t4 := Tryd.underlying4
  a4 := Tryd.isAgg4
  z4 := Tryd.sizeOf4
  v4 := Tryd.zeroValue4
  t9 := Tryd.underlying9
  a9 := Tryd.isAgg9
  z9 := Tryd.sizeOf9
  v9 := Tryd.zeroValue9
  t37 := Tryd.underlying36
  a37 := Tryd.isAgg36
  z37 := Tryd.sizeOf36
  v37 := Tryd.zeroValue36
  t127 := Tryd.underlying82
  a127 := Tryd.isAgg82
  z127 := Tryd.sizeOf82
  v127 := Tryd.zeroValue82
  t5 := Tryd.underlying5
  a5 := Tryd.isAgg5
  z5 := Tryd.sizeOf5
  v5 := Tryd.zeroValue5
  i0 := by kernel_rfl
  i3 := by kernel_rfl
  i4 := by kernel_rfl
  i5 := by kernel_rfl
  i9 := by kernel_rfl
  i37 := by kernel_rfl
  i127 := by kernel_rfl }
def lays149_ren : Go.Shelf.Ren := ⟨fun | 149 => 31 | 222 => 49 | n => n, fun | 9 => 9 | 5 => 5 | 3 => 3 | 4 => 4 | n => n, fun | n => n⟩
theorem lays149 : Go.Proofs.Lays.n149 Tryd.prog lays149_ren := {
  mixed := by kernel_rfl
  f149 := Tryd.func31.trans (congrArg some (by kernel_rfl))
  f222 := Tryd.func49.trans (congrArg some (by kernel_rfl))
  t3 := Tryd.underlying3
  a3 := Tryd.isAgg3
  z3 := Tryd.sizeOf3
  v3 := Tryd.zeroValue3
  t4 := Tryd.underlying4
  a4 := Tryd.isAgg4
  z4 := Tryd.sizeOf4
  v4 := Tryd.zeroValue4
  t5 := Tryd.underlying5
  a5 := Tryd.isAgg5
  z5 := Tryd.sizeOf5
  v5 := Tryd.zeroValue5
  t9 := Tryd.underlying9
  a9 := Tryd.isAgg9
  z9 := Tryd.sizeOf9
  v9 := Tryd.zeroValue9 }
def lays158_ren : Go.Shelf.Ren := ⟨fun | 158 => 41 | 165 => 44 | 166 => 45 | 167 => 61 | 169 => 46 | 230 => 62 | 203 => 64 | 240 => 65 | 241 => 66 | 197 => 32 | 118 => 71 | 168 => 72 | 270 => 73 | 262 => 74 | 276 => 75 | 277 => 76 | 260 => 50 | 242 => 78 | 313 => 79 | 278 => 81 | 274 => 51 | 275 => 52 | n => n, fun | 9 => 9 | 4 => 4 | 3 => 3 | 5 => 5 | 72 => 56 | 0 => 0 | 76 => 60 | 75 => 59 | 107 => 51 | 70 => 54 | 20 => 20 | 37 => 36 | 127 => 82 | 21 => 21 | 105 => 49 | 164 => 99 | 162 => 71 | 203 => 103 | 119 => 83 | 46 => 37 | 139 => 86 | 138 => 85 | 51 => 87 | 160 => 69 | 208 => 91 | 206 => 89 | 80 => 62 | n => n, fun | 13 => 2 | 3 => 4 | 4 => 5 | n => n⟩
theorem lays158 : Go.Proofs.Lays.n158 Tryd.prog lays158_ren := {
  mixed := by kernel_rfl
  f118 := Tryd.func71.trans (congrArg some (by kernel_rfl))
  f158 := Tryd.func41.trans (congrArg some (by kernel_rfl))
  f165 := Tryd.func44.trans (congrArg some (by kernel_rfl))
  f166 := Tryd.func45.trans (congrArg some (by kernel_rfl))
  f167 := Tryd.func61.trans (congrArg some (by kernel_rfl))
  f168 := Tryd.func72.trans (congrArg some (by kernel_rfl))
  f169 := Tryd.func46.trans (congrArg some (by kernel_rfl))
  f197 := Tryd.func32.trans (congrArg some (by kernel_rfl))
  f203 := Tryd.func64.trans (congrArg some (by kernel_rfl))
  f230 := Tryd.func62.trans (congrArg some (by kernel_rfl))
  f240 := Tryd.func65.trans (congrArg some (by kernel_rfl))
  f241 := Tryd.func66.trans (congrArg some (by kernel_rfl))
  f242 := Tryd.func78.trans (congrArg some (by kernel_rfl))
  f260 := Tryd.func50.trans (congrArg some (by kernel_rfl))
  f262 := Tryd.func74.trans (congrArg some (by kernel_rfl))
  f270 := Tryd.func73.trans (congrArg some (by kernel_rfl))
  f274 := Tryd.func51.trans (congrArg some (by kernel_rfl))
  f275 := Tryd.func52.trans (congrArg some (by kernel_rfl))
  f276 := Tryd.func75.trans (congrArg some (by kernel_rfl))
  f277 := Tryd.func76.trans (congrArg some (by kernel_rfl))
  f278 := Tryd.func81.trans (congrArg some (by kernel_rfl))
  f313 := Tryd.func79.trans (congrArg some (by kernel_rfl))
  t0 := Tryd.underlying0
  a0 := Tryd.isAgg0
  z0 := Tryd.sizeOf0
  v0 := Tryd.zeroValue0
  t3 := Tryd.underlying3
  a3 := Tryd.isAgg3
  z3 := Tryd.sizeOf3
  v3 := Tryd.zeroValue3
  t4 := Tryd.underlying4
  a4 := Tryd.isAgg4
  z4 := Tryd.sizeOf4
  v4 := Tryd.zeroValue4
  t5 := Tryd.underlying5
  a5 := Tryd.isAgg5
  z5 := Tryd.sizeOf5
  v5 := Tryd.zeroValue5
  t9 := Tryd.underlying9
  a9 := Tryd.isAgg9
  z9 := Tryd.sizeOf9
  v9 := Tryd.zeroValue9
  t20 := Tryd.underlying20
  a20 := Tryd.isAgg20
  z20 := Tryd.sizeOf20
  v20 := Tryd.zeroValue20
  t21 := Tryd.underlying21
  a21 := Tryd.isAgg21
  z21 := Tryd.sizeOf21
  v21 := Tryd.zeroValue21
  t37 := Tryd.underlying36
  a37 := Tryd.isAgg36
  z37 := Tryd.sizeOf36
  v37 := Tryd.zeroValue36
  t46 := Tryd.underlying37
  a46 := Tryd.isAgg37
  z46 := Tryd.sizeOf37
  v46 := Tryd.zeroValue37
  t51 := Tryd.underlying87
  a51 := Tryd.isAgg87
  z51 := Tryd.sizeOf87
  v51 := Tryd.zeroValue87
  t70 := Tryd.underlying54
  a70 := Tryd.isAgg54
  z70 := Tryd.sizeOf54
  v70 := Tryd.zeroValue54
  t72 := Tryd.underlying56
  a72 := Tryd.isAgg56
  z72 := Tryd.sizeOf56
  v72 := Tryd.zeroValue56
  t75 := Tryd.underlying59
  a75 := Tryd.isAgg59
  z75 := Tryd.sizeOf59
  v75 := Tryd.zeroValue59
  t76 := Tryd.underlying60
  a76 := Tryd.isAgg60
  z76 := Tryd.sizeOf60
  v76 := Tryd.zeroValue60
  t105 := Tryd.underlying49
  a105 := Tryd.isAgg49
  z105 := Tryd.sizeOf49
  v105 := Tryd.zeroValue49
  t107 := Tryd.underlying51
  a107 := Tryd.isAgg51
  z107 := Tryd.sizeOf51
  v107 := Tryd.zeroValue51
  t119 := Tryd.underlying83
  a119 := Tryd.isAgg83
  z119 := Tryd.sizeOf83
  t127 := Tryd.underlying82
  a127 := Tryd.isAgg82
  z127 := Tryd.sizeOf82
  v127 := Tryd.zeroValue82
  t138 := Tryd.underlying85
  a138 := Tryd.isAgg85
  z138 := Tryd.sizeOf85
  v138 := Tryd.zeroValue85
  t139 := Tryd.underlying86
  a139 := Tryd.isAgg86
  z139 := Tryd.sizeOf86
  v139 := Tryd.zeroValue86
  t160 := Tryd.underlying69
  a160 := Tryd.isAgg69
  z160 := Tryd.sizeOf69
  v160 := Tryd.zeroValue69
  t162 := Tryd.underlying71
  a162 := Tryd.isAgg71
  z162 := Tryd.sizeOf71
  v162 := Tryd.zeroValue71
  t164 := Tryd.underlying99
  a164 := Tryd.isAgg99
  z164 := Tryd.sizeOf99
  v164 := Tryd.zeroValue99
  t203 := Tryd.underlying103
  a203 := Tryd.isAgg103
  z203 := Tryd.sizeOf103
  v203 := Tryd.zeroValue103
  t206 := Tryd.underlying89
  a206 := Tryd.isAgg89
  z206 := Tryd.sizeOf89
  v206 := Tryd.zeroValue89
  t208 := Tryd.underlying91
  a208 := Tryd.isAgg91
  z208 := Tryd.sizeOf91
  v208 := Tryd.zeroValue91
  g3 := by kernel_rfl
  g4 := by kernel_rfl
  g13 := by kernel_rfl }
def lays159_ren : Go.Shelf.Ren := ⟨fun | 159 => 40 | 165 => 44 | 166 => 45 | 167 => 61 | 169 => 46 | 230 => 62 | 204 => 63 | 240 => 65 | 241 => 66 | 197 => 32 | 118 => 71 | 168 => 72 | 270 => 73 | 262 => 74 | 276 => 75 | 277 => 76 | 260 => 50 | 242 => 78 | 313 => 79 | 278 => 81 | 274 => 51 | 275 => 52 | n => n, fun | 9 => 9 | 4 => 4 | 3 => 3 | 5 => 5 | 72 => 56 | 0 => 0 | 76 => 60 | 75 => 59 | 107 => 51 | 70 => 54 | 20 => 20 | 37 => 36 | 127 => 82 | 21 => 21 | 105 => 49 | 164 => 99 | 162 => 71 | 203 => 103 | 119 => 83 | 46 => 37 | 139 => 86 | 138 => 85 | 51 => 87 | 160 => 69 | 208 => 91 | 206 => 89 | 80 => 62 | n => n, fun | 13 => 2 | 3 => 4 | 4 => 5 | n => n⟩
theorem lays159 : Go.Proofs.Lays.n159 Tryd.prog lays159_ren := {
  mixed := by kernel_rfl
  f118 := Tryd.func71.trans (congrArg some (by kernel_rfl))
  f159 := Tryd.func40.trans (congrArg some (by kernel_rfl))
  f165 := Tryd.func44.trans (congrArg some (by kernel_rfl))
  f166 := Tryd.func45.trans (congrArg some (by kernel_rfl))
  f167 := Tryd.func61.trans (congrArg some (by kernel_rfl))
  f168 := Tryd.func72.trans (congrArg some (by kernel_rfl))
  f169 := Tryd.func46.trans (congrArg some (by kernel_rfl))
  f197 := Tryd.func32.trans (congrArg some (by kernel_rfl))
  f204 := Tryd.func63.trans (congrArg some (by kernel_rfl))
  f230 := Tryd.func62.trans (congrArg some (by kernel_rfl))
  f240 := Tryd.func65.trans (congrArg some (by kernel_rfl))
  f241 := Tryd.func66.trans (congrArg some (by kernel_rfl))
  f242 := Tryd.func78.trans (congrArg some (by kernel_rfl))
  f260 := Tryd.func50.trans (congrArg some (by kernel_rfl))
  f262 := Tryd.func74.trans (congrArg some (by kernel_rfl))
  f270 := Tryd.func73.trans (congrArg some (by kernel_rfl))
  f274 := Tryd.func51.trans (congrArg some (by kernel_rfl))
  f275 := Tryd.func52.trans (congrArg some (by kernel_rfl))
  f276 := Tryd.func75.trans (congrArg some (by kernel_rfl))
  f277 := Tryd.func76.trans (congrArg some (by kernel_rfl))
  f278 := Tryd.func81.trans (congrArg some (by kernel_rfl))
  f313 := Tryd.func79.trans (congrArg some (by kernel_rfl))
  t0 := Tryd.underlying0
  a0 := Tryd.isAgg0
  z0 := Tryd.sizeOf0
  v0 := Tryd.zeroValue0
  t3 := Tryd.underlying3
  a3 := Tryd.isAgg3
  z3 := Tryd.sizeOf3
  v3 := Tryd.zeroValue3
  t4 := Tryd.underlying4
  a4 := Tryd.isAgg4
  z4 := Tryd.sizeOf4
  v4 := Tryd.zeroValue4
  t5 := Tryd.underlying5
  a5 := Tryd.isAgg5
  z5 := Tryd.sizeOf5
  v5 := Tryd.zeroValue5
  t9 := Tryd.underlying9
  a9 := Tryd.isAgg9
  z9 := Tryd.sizeOf9
  v9 := Tryd.zeroValue9
  t20 := Tryd.underlying20
  a20 := Tryd.isAgg20
  z20 := Tryd.sizeOf20
  v20 := Tryd.zeroValue20
  t21 := Tryd.underlying21
  a21 := Tryd.isAgg21
  z21 := Tryd.sizeOf21
  v21 := Tryd.zeroValue21
  t37 := Tryd.underlying36
  a37 := Tryd.isAgg36
  z37 := Tryd.sizeOf36
  v37 := Tryd.zeroValue36
  t46 := Tryd.underlying37
  a46 := Tryd.isAgg37
  z46 := Tryd.sizeOf37
  v46 := Tryd.zeroValue37
  t51 := Tryd.underlying87
  a51 := Tryd.isAgg87
  z51 := Tryd.sizeOf87
  v51 := Tryd.zeroValue87
  t70 := Tryd.underlying54
  a70 := Tryd.isAgg54
  z70 := Tryd.sizeOf54
  v70 := Tryd.zeroValue54
  t72 := Tryd.underlying56
  a72 := Tryd.isAgg56
  z72 := Tryd.sizeOf56
  v72 := Tryd.zeroValue56
  t75 := Tryd.underlying59
  a75 := Tryd.isAgg59
  z75 := Tryd.sizeOf59
  v75 := Tryd.zeroValue59
  t76 := Tryd.underlying60
  a76 := Tryd.isAgg60
  z76 := Tryd.sizeOf60
  v76 := Tryd.zeroValue60
  t105 := Tryd.underlying49
  a105 := Tryd.isAgg49
  z105 := Tryd.sizeOf49
  v105 := Tryd.zeroValue49
  t107 := Tryd.underlying51
  a107 := Tryd.isAgg51
  z107 := Tryd.sizeOf51
  v107 := Tryd.zeroValue51
  t119 := Tryd.underlying83
  a119 := Tryd.isAgg83
  z119 := Tryd.sizeOf83
  t127 := Tryd.underlying82
  a127 := Tryd.isAgg82
  z127 := Tryd.sizeOf82
  v127 := Tryd.zeroValue82
  t138 := Tryd.underlying85
  a138 := Tryd.isAgg85
  z138 := Tryd.sizeOf85
  v138 := Tryd.zeroValue85
  t139 := Tryd.underlying86
  a139 := Tryd.isAgg86
  z139 := Tryd.sizeOf86
  v139 := Tryd.zeroValue86
  t160 := Tryd.underlying69
  a160 := Tryd.isAgg69
  z160 := Tryd.sizeOf69
  v160 := Tryd.zeroValue69
  t162 := Tryd.underlying71
  a162 := Tryd.isAgg71
  z162 := Tryd.sizeOf71
  v162 := Tryd.zeroValue71
  t164 := Tryd.underlying99
  a164 := Tryd.isAgg99
  z164 := Tryd.sizeOf99
  v164 := Tryd.zeroValue99
  t203 := Tryd.underlying103
  a203 := Tryd.isAgg103
  z203 := Tryd.sizeOf103
  v203 := Tryd.zeroValue103
  t206 := Tryd.underlying89
  a206 := Tryd.isAgg89
  z206 := Tryd.sizeOf89
  v206 := Tryd.zeroValue89
  t208 := Tryd.underlying91
  a208 := Tryd.isAgg91
  z208 := Tryd.sizeOf91
  v208 := Tryd.zeroValue91
  g3 := by kernel_rfl
  g4 := by kernel_rfl
  g13 := by kernel_rfl }
def lays156_ren : Go.Shelf.Ren := ⟨fun | 156 => 25 | 165 => 44 | 166 => 45 | 169 => 46 | 240 => 65 | 241 => 66 | 276 => 75 | 277 => 76 | n => n, fun | 31 => 30 | 9 => 9 | 3 => 3 | 4 => 4 | 0 => 0 | 20 => 20 | 72 => 56 | 76 => 60 | 70 => 54 | 37 => 36 | 75 => 59 | 127 => 82 | 164 => 99 | 5 => 5 | 80 => 62 | n => n, fun | n => n⟩
theorem lays156 : Go.Proofs.Lays.n156 Tryd.prog lays156_ren := {
  mixed := by kernel_rfl
  f156 := Tryd.func25.trans (congrArg some (by kernel_rfl))
  f165 := Tryd.func44.trans (congrArg some (by kernel_rfl))
  f166 := Tryd.func45.trans (congrArg some (by kernel_rfl))
  f169 := Tryd.func46.trans (congrArg some (by kernel_rfl))
  f240 := Tryd.func65.trans (congrArg some (by kernel_rfl))
  f241 := Tryd.func66.trans (congrArg some (by kernel_rfl))
  f276 := Tryd.func75.trans (congrArg some (by kernel_rfl))
  f277 := Tryd.func76.trans (congrArg some (by kernel_rfl))
  t0 := Tryd.underlying0
  a0 := Tryd.isAgg0
  z0 := Tryd.sizeOf0
  v0 := Tryd.zeroValue0
  t3 := Tryd.underlying3
  a3 := Tryd.isAgg3
  z3 := Tryd.sizeOf3
  v3 := Tryd.zeroValue3
  t4 := Tryd.underlying4
  a4 := Tryd.isAgg4
  z4 := Tryd.sizeOf4
  v4 := Tryd.zeroValue4
  t9 := Tryd.underlying9
  a9 := Tryd.isAgg9
  z9 := Tryd.sizeOf9
  v9 := Tryd.zeroValue9
  t20 := Tryd.underlying20
  a20 := Tryd.isAgg20
  z20 := Tryd.sizeOf20
  v20 := Tryd.zeroValue20
  t31 := Tryd.underlying30
  a31 := Tryd.isAgg30
  z31 := Tryd.sizeOf30
  v31 := Tryd.zeroValue30
  t37 := Tryd.underlying36
  a37 := Tryd.isAgg36
  z37 := Tryd.sizeOf36
  v37 := Tryd.zeroValue36
  t70 := Tryd.underlying54
  a70 := Tryd.isAgg54
  z70 := Tryd.sizeOf54
  v70 := Tryd.zeroValue54
  t72 := Tryd.underlying56
  a72 := Tryd.isAgg56
  z72 := Tryd.sizeOf56
  v72 := Tryd.zeroValue56
  t75 := Tryd.underlying59
  a75 := Tryd.isAgg59
  z75 := Tryd.sizeOf59
  v75 := Tryd.zeroValue59
  t76 := Tryd.underlying60
  a76 := Tryd.isAgg60
  z76 := Tryd.sizeOf60
  v76 := Tryd.zeroValue60
  t127 := Tryd.underlying82
  a127 := Tryd.isAgg82
  z127 := Tryd.sizeOf82
  v127 := Tryd.zeroValue82
  t164 := Tryd.underlying99
  a164 := Tryd.isAgg99
  z164 := Tryd.sizeOf99
  v164 := Tryd.zeroValue99 }
theorem Builder_Extra_158 : Builder.Extra Tryd.prog lays158_ren := {
  sizeBuilder := by kernel_rfl
  liesBuilder := by kernel_rfl
  t5 := Tryd.underlying5
  a5 := Tryd.isAgg5
  z5 := Tryd.sizeOf5
  v5 := Tryd.zeroValue5
  infoByte := by kernel_rfl
  cellsByte := by kernel_rfl
  sizeByte := by kernel_rfl
  neB5 := by decide }
theorem Builder_Extra_159 : Builder.Extra Tryd.prog lays159_ren := {
  sizeBuilder := by kernel_rfl
  liesBuilder := by kernel_rfl
  t5 := Tryd.underlying5
  a5 := Tryd.isAgg5
  z5 := Tryd.sizeOf5
  v5 := Tryd.zeroValue5
  infoByte := by kernel_rfl
  cellsByte := by kernel_rfl
  sizeByte := by kernel_rfl
  neB5 := by decide }
theorem Builder_Extra_156 : Builder.Extra Tryd.prog lays156_ren := {
  sizeBuilder := by kernel_rfl
  liesBuilder := by kernel_rfl
  t5 := Tryd.underlying5
  a5 := Tryd.isAgg5
  z5 := Tryd.sizeOf5
  v5 := Tryd.zeroValue5
  infoByte := by kernel_rfl
  cellsByte := by kernel_rfl
  sizeByte := by kernel_rfl
  neB5 := by decide }

theorem lowerB_eq (c : UInt8) : Lib.lowerB c = G.lo c := by
  have := G.all_u8 (fun c => Lib.lowerB c == G.lo c) (by decide +kernel) c
  simpa using this
theorem upperB_eq (c : UInt8) : Lib.upperB c = G.up c := by
  have := G.all_u8 (fun c => Lib.upperB c == G.up c) (by decide +kernel) c
  simpa using this
theorem ascii_of {s : ByteArray} (h : ∀ c ∈ bts s, c.toNat < 128) : ∀ (j : Nat) (b : UInt8), s.data.toList[j]? = some b → b.toNat < 128 := fun _ b hb => h b (List.mem_of_getElem? hb)
theorem lower_any (s : ByteArray) (hs : s.size ≤ 100000) (h : ∀ c ∈ bts s, c.toNat < 128) (w : World) : Calls Tryd.prog 40 #[.string s] w fun e w' => e = .returned (.string ⟨((bts s).map G.lo).toArray⟩) ∧ Below w.heap.size w w' := by
  have := Any.strings_ToLower_ascii lays159 Builder_Extra_159 s w (by omega) (ascii_of h)
  unfold Lib.toLowerA at this
  rw [show Lib.lowerB = G.lo from funext lowerB_eq] at this
  exact this
theorem upper_any (s : ByteArray) (hs : s.size ≤ 100000) (h : ∀ c ∈ bts s, c.toNat < 128) (w : World) : Calls Tryd.prog 41 #[.string s] w fun e w' => e = .returned (.string ⟨((bts s).map G.up).toArray⟩) ∧ Below w.heap.size w w' := by
  have := Any.strings_ToUpper_ascii lays158 Builder_Extra_158 s w (by omega) (ascii_of h)
  unfold Lib.toUpperA at this
  rw [show Lib.upperB = G.up from funext upperB_eq] at this
  exact this
theorem clone_any (s : ByteArray) (hs : s.size ≤ 100000) (w : World) : Calls Tryd.prog 24 #[.string s] w fun e w' => e = .returned (.string s) ∧ Below w.heap.size w w' := by
  have hc : Calls Tryd.prog 43 #[.string s] w fun e w' => e = .returned (.string s) ∧ Below w.heap.size w w' := Any.stringslite_Clone laysM316 s w (by omega)
  go_enter Tryd.func24, Tryd.ntmps24
  go_wp2_with fail
  refine hc.mono ?_
  rintro e w' ⟨rfl, hb⟩
  go_wp2
  go_ret
  exact ⟨rfl, hb⟩
/-- A text of bytes, as a value. -/
abbrev tx (l : List UInt8) : Value := .string ⟨l.toArray⟩
theorem bts_tx (l : List UInt8) : bts ⟨l.toArray⟩ = l := rfl
theorem mk_bts (s : ByteArray) : (⟨(bts s).toArray⟩ : ByteArray) = s := rfl
theorem sz_tx (l : List UInt8) : (⟨l.toArray⟩ : ByteArray).size = l.length := by show l.toArray.size = _; simp
theorem join_lib : ∀ (ps : List (List UInt8)), Lib.join ps [45] = G.join ps
  | [] => rfl
  | [x] => Lib.join_one x [45]
  | x :: y :: ps => by
    have := join_lib (y :: ps)
    rw [G.join_cons (by simp), ← this, Lib.join_cons, Lib.join_cons]
    simp [Lib.joinTail]
/-- The slice reads as these texts. -/
def RdT (w : World) (ao : Option Addr) (ss : List (List UInt8)) : Prop := ∀ i (h : i < ss.length), ∃ b off, ao = some ⟨b, off, none⟩ ∧ b < w.heap.size ∧ w.cell? ⟨b, off + i, none⟩ = some (tx ss[i])
theorem joinC_any (w : World) (ao : Option Addr) (cap : Nat) (ps : List (List UInt8)) (hr : RdT w ao ps) (hc : ps.length ≤ cap) (hl : ps.length ≤ 1000) (hj : (G.join ps).length ≤ 100000) :
    Calls Tryd.prog 25 #[.slice ao ps.length cap, .string ⟨#[45]⟩] w fun e w' => e = .returned (tx (G.join ps)) ∧ Below w.heap.size w w' := by
  cases ps with
  | nil =>
    refine (show Calls Tryd.prog 25 #[.slice ao 0 cap, .string ⟨#[45]⟩] w _ from Any.strings_Join_none lays156 Builder_Extra_156 ao cap ⟨#[45]⟩ w).mono ?_
    rintro e w' ⟨rfl, rfl⟩
    exact ⟨rfl, Below.refl _ _⟩
  | cons p ps =>
    obtain ⟨b, off, rfl, hbs, _⟩ := hr 0 (by simp)
    have hm : ((p :: ps).map fun l => (⟨l.toArray⟩ : ByteArray)).map (·.data.toList) = p :: ps := by simp [Function.comp_def]
    have := Any.strings_Join lays156 Builder_Extra_156 b off cap ((p :: ps).map fun l => ⟨l.toArray⟩) ⟨#[45]⟩ w ?_ hbs (by rw [List.length_map]; omega) (by rw [List.length_map]; exact hc) (by
      rw [hm, show (⟨#[45]⟩ : ByteArray).data.toList = [45] from rfl, join_lib]; omega)
    · rw [hm, show (⟨#[45]⟩ : ByteArray).data.toList = [45] from rfl, join_lib, List.length_map] at this
      exact this
    · intro j x hx
      rw [List.getElem?_map] at hx
      obtain ⟨y, hy, rfl⟩ := Option.map_eq_some_iff.1 hx
      obtain ⟨hj2, rfl⟩ := List.getElem?_eq_some_iff.1 hy
      obtain ⟨b', off', e, _, h3⟩ := hr j hj2
      cases e
      exact h3
end Go.Proofs.YtdbidfphpnkkhaaDoor
