import Derived.Shelf.Strconv.AtoiAll
import Derived.Shelf.Strconv.AppendIntPublic10
import Derived.Shelf.Bytes.SlIndexAt
import Derived.Shelf.Bytes.SlIndexSmall
import Derived.Test.YtfcdhpkikhkmiaaGreatDoorProg
import Derived.Test.YtfcdhpkikhkmiaaGreatDoorChecked
import Derived.Shelf.LaysM
import Derived.Shelf.Strconv.Itoa3
import Derived.Test.YtfcdhpkikhkmiaaGreatDoorPk5
import Derived.Shelf.RegionOpen
import Derived.Lib.Hide
import Derived.Deep.QuietTactic
import Derived.BigQuiet

/-
  What calls of the library come to, laid at this program: strconv.Atoi, strconv.AppendInt, bytes.Index.
-/
namespace Go.Proofs
open Go.Shelf
def Tryz.laysAtoi_ren : Go.Shelf.Ren := ⟨fun | 172 => 89 | 244 => 102 | 245 => 103 | 247 => 120 | 279 => 121 | 280 => 122 | 281 => 123 | 282 => 124 | 287 => 134 | 316 => 135 | 171 => 90 | 205 => 136 | 321 => 143 | 322 => 144 | 243 => 104 | 246 => 125 | 283 => 137 | 284 => 138 | 285 => 139 | 286 => 140 | 129 => 146 | 317 => 145 | 318 => 147 | 319 => 148 | 320 => 149 | 337 => 151 | 338 => 152 | n => n, fun | 9 => 9 | 3 => 3 | 75 => 140 | 76 => 141 | 4 => 4 | 5 => 5 | 167 => 166 | 37 => 25 | 0 => 0 | 85 => 167 | 2 => 2 | 168 => 169 | 53 => 177 | 175 => 182 | 46 => 165 | 210 => 185 | 127 => 195 | 145 => 198 | 143 => 196 | 21 => 21 | 171 => 187 | 173 => 190 | 212 => 200 | 51 => 179 | 20 => 20 | 213 => 201 | 232 => 205 | 233 => 206 | 80 => 118 | n => n, fun | 15 => 1 | 16 => 2 | 17 => 3 | 18 => 4 | 19 => 5 | n => n⟩
theorem Tryz.laysAtoi : Go.Proofs.LaysC.n172 Tryz.prog Tryz.laysAtoi_ren := {
  mixed := by kernel_rfl
  f129 := Tryz.func146.trans (congrArg some (by kernel_rfl))
  f171 := Tryz.func90.trans (congrArg some (by kernel_rfl))
  f172 := Tryz.func89.trans (congrArg some (by kernel_rfl))
  f205 := Tryz.func136.trans (congrArg some (by kernel_rfl))
  f243 := Tryz.func104.trans (congrArg some (by kernel_rfl))
  f244 := Tryz.func102.trans (congrArg some (by kernel_rfl))
  f245 := Tryz.func103.trans (congrArg some (by kernel_rfl))
  f246 := Tryz.func125.trans (congrArg some (by kernel_rfl))
  f247 := Tryz.func120.trans (congrArg some (by kernel_rfl))
  f279 := Tryz.func121.trans (congrArg some (by kernel_rfl))
  f280 := Tryz.func122.trans (congrArg some (by kernel_rfl))
  f281 := Tryz.func123.trans (congrArg some (by kernel_rfl))
  f282 := Tryz.func124.trans (congrArg some (by kernel_rfl))
  f283 := Tryz.func137.trans (congrArg some (by kernel_rfl))
  f284 := Tryz.func138.trans (congrArg some (by kernel_rfl))
  f285 := Tryz.func139.trans (congrArg some (by kernel_rfl))
  f286 := Tryz.func140.trans (congrArg some (by kernel_rfl))
  f287 := Tryz.func134.trans (congrArg some (by kernel_rfl))
  f316 := Tryz.func135.trans (congrArg some (by kernel_rfl))
  f317 := Tryz.func145.trans (congrArg some (by kernel_rfl))
  f318 := Tryz.func147.trans (congrArg some (by kernel_rfl))
  f319 := Tryz.func148.trans (congrArg some (by kernel_rfl))
  f320 := Tryz.func149.trans (congrArg some (by kernel_rfl))
  f321 := Tryz.func143.trans (congrArg some (by kernel_rfl))
  f322 := Tryz.func144.trans (congrArg some (by kernel_rfl))
  f337 := Tryz.func151.trans (congrArg some (by kernel_rfl))
  f338 := Tryz.func152.trans (congrArg some (by kernel_rfl))
  t0 := Tryz.underlying0
  a0 := Tryz.isAgg0
  z0 := Tryz.sizeOf0
  v0 := Tryz.zeroValue0
  t2 := Tryz.underlying2
  a2 := Tryz.isAgg2
  z2 := Tryz.sizeOf2
  v2 := Tryz.zeroValue2
  t3 := Tryz.underlying3
  a3 := Tryz.isAgg3
  z3 := Tryz.sizeOf3
  v3 := Tryz.zeroValue3
  t4 := Tryz.underlying4
  a4 := Tryz.isAgg4
  z4 := Tryz.sizeOf4
  v4 := Tryz.zeroValue4
  t5 := Tryz.underlying5
  a5 := Tryz.isAgg5
  z5 := Tryz.sizeOf5
  v5 := Tryz.zeroValue5
  t9 := Tryz.underlying9
  a9 := Tryz.isAgg9
  z9 := Tryz.sizeOf9
  v9 := Tryz.zeroValue9
  t20 := Tryz.underlying20
  a20 := Tryz.isAgg20
  z20 := Tryz.sizeOf20
  v20 := Tryz.zeroValue20
  t21 := Tryz.underlying21
  a21 := Tryz.isAgg21
  z21 := Tryz.sizeOf21
  v21 := Tryz.zeroValue21
  t37 := Tryz.underlying25
  a37 := Tryz.isAgg25
  z37 := Tryz.sizeOf25
  v37 := Tryz.zeroValue25
  t46 := Tryz.underlying165
  a46 := Tryz.isAgg165
  z46 := Tryz.sizeOf165
  v46 := Tryz.zeroValue165
  t51 := Tryz.underlying179
  a51 := Tryz.isAgg179
  z51 := Tryz.sizeOf179
  v51 := Tryz.zeroValue179
  t53 := Tryz.underlying177
  a53 := Tryz.isAgg177
  z53 := Tryz.sizeOf177
  v53 := Tryz.zeroValue177
  t75 := Tryz.underlying140
  a75 := Tryz.isAgg140
  z75 := Tryz.sizeOf140
  v75 := Tryz.zeroValue140
  t76 := Tryz.underlying141
  a76 := Tryz.isAgg141
  z76 := Tryz.sizeOf141
  v76 := Tryz.zeroValue141
  t85 := Tryz.underlying167
  a85 := Tryz.isAgg167
  z85 := Tryz.sizeOf167
  v85 := Tryz.zeroValue167
  t127 := Tryz.underlying195
  a127 := Tryz.isAgg195
  z127 := Tryz.sizeOf195
  v127 := Tryz.zeroValue195
  t143 := Tryz.underlying196
  a143 := Tryz.isAgg196
  z143 := Tryz.sizeOf196
  v143 := Tryz.zeroValue196
  t145 := Tryz.underlying198
  a145 := Tryz.isAgg198
  z145 := Tryz.sizeOf198
  v145 := Tryz.zeroValue198
  t167 := Tryz.underlying166
  a167 := Tryz.isAgg166
  z167 := Tryz.sizeOf166
  v167 := Tryz.zeroValue166
  t168 := Tryz.underlying169
  a168 := Tryz.isAgg169
  z168 := Tryz.sizeOf169
  v168 := Tryz.zeroValue169
  t171 := Tryz.underlying187
  a171 := Tryz.isAgg187
  z171 := Tryz.sizeOf187
  v171 := Tryz.zeroValue187
  t173 := Tryz.underlying190
  a173 := Tryz.isAgg190
  z173 := Tryz.sizeOf190
  v173 := Tryz.zeroValue190
  t175 := Tryz.underlying182
  a175 := Tryz.isAgg182
  z175 := Tryz.sizeOf182
  v175 := Tryz.zeroValue182
  t210 := Tryz.underlying185
  a210 := Tryz.isAgg185
  z210 := Tryz.sizeOf185
  v210 := Tryz.zeroValue185
  t212 := Tryz.underlying200
  a212 := Tryz.isAgg200
  z212 := Tryz.sizeOf200
  v212 := Tryz.zeroValue200
  t213 := Tryz.underlying201
  a213 := Tryz.isAgg201
  z213 := Tryz.sizeOf201
  t232 := Tryz.underlying205
  a232 := Tryz.isAgg205
  z232 := Tryz.sizeOf205
  v232 := Tryz.zeroValue205
  t233 := Tryz.underlying206
  a233 := Tryz.isAgg206
  z233 := Tryz.sizeOf206
  v233 := Tryz.zeroValue206
  g15 := by kernel_rfl
  g16 := by kernel_rfl
  g17 := by kernel_rfl
  g18 := by kernel_rfl
  g19 := by kernel_rfl
  t80 := Tryz.underlying118
  a80 := Tryz.isAgg118
  z80 := Tryz.sizeOf118
  v80 := Tryz.zeroValue118
  i0 := by kernel_rfl
  i2 := by kernel_rfl
  i3 := by kernel_rfl
  i4 := by kernel_rfl
  i5 := by kernel_rfl
  i9 := by kernel_rfl
  i20 := by kernel_rfl
  i21 := by kernel_rfl
  i37 := by kernel_rfl
  i46 := by kernel_rfl
  i51 := by kernel_rfl
  i53 := by kernel_rfl
  i75 := by kernel_rfl
  i76 := by kernel_rfl
  i80 := by kernel_rfl
  i85 := by kernel_rfl
  i127 := by kernel_rfl
  i143 := by kernel_rfl
  i145 := by kernel_rfl
  i167 := by kernel_rfl
  i168 := by kernel_rfl
  i171 := by kernel_rfl
  i173 := by kernel_rfl
  i175 := by kernel_rfl
  i210 := by kernel_rfl
  i212 := by kernel_rfl
  i232 := by kernel_rfl
  i233 := by kernel_rfl
  m15 := by kernel_rfl
  m16 := by kernel_rfl
  m17 := by kernel_rfl
  m18 := by kernel_rfl
  m19 := by kernel_rfl
  c0 := by kernel_rfl
  c2 := by kernel_rfl
  c3 := by kernel_rfl
  c4 := by kernel_rfl
  c5 := by kernel_rfl
  c9 := by kernel_rfl
  c20 := by kernel_rfl
  c21 := by kernel_rfl
  c37 := by kernel_rfl
  c46 := by kernel_rfl
  c51 := by kernel_rfl
  c53 := by kernel_rfl
  c75 := by kernel_rfl
  c76 := by kernel_rfl
  c80 := by kernel_rfl
  c85 := by kernel_rfl
  c127 := by kernel_rfl
  c143 := by kernel_rfl
  c145 := by kernel_rfl
  c167 := by kernel_rfl
  c168 := by kernel_rfl
  c171 := by kernel_rfl
  c173 := by kernel_rfl
  c175 := by kernel_rfl
  c210 := by kernel_rfl
  c212 := by kernel_rfl
  c213 := by kernel_rfl
  c232 := by kernel_rfl
  c233 := by kernel_rfl }
def Tryz.laysAppendInt_ren : Go.Shelf.Ren := ⟨fun | 176 => 98 | 249 => 114 | 288 => 131 | 283 => 137 | 284 => 138 | 285 => 139 | 286 => 140 | 129 => 146 | 317 => 145 | 318 => 147 | 319 => 148 | 320 => 149 | 337 => 151 | 338 => 152 | n => n, fun | 37 => 25 | 2 => 2 | 3 => 3 | 53 => 177 | 4 => 4 | 9 => 9 | 171 => 187 | 0 => 0 | 173 => 190 | 212 => 200 | 51 => 179 | 5 => 5 | 20 => 20 | 213 => 201 | 46 => 165 | 232 => 205 | 233 => 206 | n => n, fun | 17 => 3 | 18 => 4 | 19 => 5 | n => n⟩
theorem Tryz.laysAppendInt : Go.Proofs.LaysM.n176 Tryz.prog Tryz.laysAppendInt_ren := {
  mixed := by kernel_rfl
  f129 := Tryz.func146.trans (congrArg some (by kernel_rfl))
  f176 := Tryz.func98.trans (congrArg some (by kernel_rfl))
  f249 := Tryz.func114.trans (congrArg some (by kernel_rfl))
  f283 := Tryz.func137.trans (congrArg some (by kernel_rfl))
  f284 := Tryz.func138.trans (congrArg some (by kernel_rfl))
  f285 := Tryz.func139.trans (congrArg some (by kernel_rfl))
  f286 := Tryz.func140.trans (congrArg some (by kernel_rfl))
  f288 := Tryz.func131.trans (congrArg some (by kernel_rfl))
  f317 := Tryz.func145.trans (congrArg some (by kernel_rfl))
  f318 := Tryz.func147.trans (congrArg some (by kernel_rfl))
  f319 := Tryz.func148.trans (congrArg some (by kernel_rfl))
  f320 := Tryz.func149.trans (congrArg some (by kernel_rfl))
  f337 := Tryz.func151.trans (congrArg some (by kernel_rfl))
  f338 := Tryz.func152.trans (congrArg some (by kernel_rfl))
  t0 := Tryz.underlying0
  a0 := Tryz.isAgg0
  z0 := Tryz.sizeOf0
  v0 := Tryz.zeroValue0
  t2 := Tryz.underlying2
  a2 := Tryz.isAgg2
  z2 := Tryz.sizeOf2
  v2 := Tryz.zeroValue2
  t3 := Tryz.underlying3
  a3 := Tryz.isAgg3
  z3 := Tryz.sizeOf3
  v3 := Tryz.zeroValue3
  t4 := Tryz.underlying4
  a4 := Tryz.isAgg4
  z4 := Tryz.sizeOf4
  v4 := Tryz.zeroValue4
  t5 := Tryz.underlying5
  a5 := Tryz.isAgg5
  z5 := Tryz.sizeOf5
  v5 := Tryz.zeroValue5
  t9 := Tryz.underlying9
  a9 := Tryz.isAgg9
  z9 := Tryz.sizeOf9
  v9 := Tryz.zeroValue9
  t20 := Tryz.underlying20
  a20 := Tryz.isAgg20
  z20 := Tryz.sizeOf20
  v20 := Tryz.zeroValue20
  t37 := Tryz.underlying25
  a37 := Tryz.isAgg25
  z37 := Tryz.sizeOf25
  v37 := Tryz.zeroValue25
  t46 := Tryz.underlying165
  a46 := Tryz.isAgg165
  z46 := Tryz.sizeOf165
  v46 := Tryz.zeroValue165
  t51 := Tryz.underlying179
  a51 := Tryz.isAgg179
  z51 := Tryz.sizeOf179
  v51 := Tryz.zeroValue179
  t53 := Tryz.underlying177
  a53 := Tryz.isAgg177
  z53 := Tryz.sizeOf177
  v53 := Tryz.zeroValue177
  t171 := Tryz.underlying187
  a171 := Tryz.isAgg187
  z171 := Tryz.sizeOf187
  v171 := Tryz.zeroValue187
  t173 := Tryz.underlying190
  a173 := Tryz.isAgg190
  z173 := Tryz.sizeOf190
  v173 := Tryz.zeroValue190
  t212 := Tryz.underlying200
  a212 := Tryz.isAgg200
  z212 := Tryz.sizeOf200
  v212 := Tryz.zeroValue200
  t213 := Tryz.underlying201
  a213 := Tryz.isAgg201
  z213 := Tryz.sizeOf201
  t232 := Tryz.underlying205
  a232 := Tryz.isAgg205
  z232 := Tryz.sizeOf205
  v232 := Tryz.zeroValue205
  t233 := Tryz.underlying206
  a233 := Tryz.isAgg206
  z233 := Tryz.sizeOf206
  v233 := Tryz.zeroValue206
  g17 := by kernel_rfl
  g18 := by kernel_rfl
  g19 := by kernel_rfl
  i0 := by kernel_rfl
  i2 := by kernel_rfl
  i3 := by kernel_rfl
  i4 := by kernel_rfl
  i5 := by kernel_rfl
  i9 := by kernel_rfl
  i20 := by kernel_rfl
  i37 := by kernel_rfl
  i46 := by kernel_rfl
  i51 := by kernel_rfl
  i53 := by kernel_rfl
  i171 := by kernel_rfl
  i173 := by kernel_rfl
  i212 := by kernel_rfl
  i232 := by kernel_rfl
  i233 := by kernel_rfl
  m17 := by kernel_rfl
  m18 := by kernel_rfl
  m19 := by kernel_rfl }
def Tryz.laysBytesIndex_ren : Go.Shelf.Ren := ⟨fun | 185 => 101 | 187 => 115 | 115 => 116 | 253 => 117 | 224 => 118 | 254 => 119 | 255 => 132 | 291 => 133 | n => n, fun | 37 => 25 | 3 => 3 | 4 => 4 | 0 => 0 | 5 => 5 | 46 => 165 | 9 => 9 | 146 => 180 | 51 => 179 | n => n, fun | 1 => 0 | n => n⟩
theorem Tryz.laysBytesIndex : Go.Proofs.Lays.n185 Tryz.prog Tryz.laysBytesIndex_ren := {
  mixed := by kernel_rfl
  f115 := Tryz.func116.trans (congrArg some (by kernel_rfl))
  f185 := Tryz.func101.trans (congrArg some (by kernel_rfl))
  f187 := Tryz.func115.trans (congrArg some (by kernel_rfl))
  f224 := Tryz.func118.trans (congrArg some (by kernel_rfl))
  f253 := Tryz.func117.trans (congrArg some (by kernel_rfl))
  f254 := Tryz.func119.trans (congrArg some (by kernel_rfl))
  f255 := Tryz.func132.trans (congrArg some (by kernel_rfl))
  f291 := Tryz.func133.trans (congrArg some (by kernel_rfl))
  t0 := Tryz.underlying0
  a0 := Tryz.isAgg0
  z0 := Tryz.sizeOf0
  v0 := Tryz.zeroValue0
  t3 := Tryz.underlying3
  a3 := Tryz.isAgg3
  z3 := Tryz.sizeOf3
  v3 := Tryz.zeroValue3
  t4 := Tryz.underlying4
  a4 := Tryz.isAgg4
  z4 := Tryz.sizeOf4
  v4 := Tryz.zeroValue4
  t5 := Tryz.underlying5
  a5 := Tryz.isAgg5
  z5 := Tryz.sizeOf5
  v5 := Tryz.zeroValue5
  t9 := Tryz.underlying9
  a9 := Tryz.isAgg9
  z9 := Tryz.sizeOf9
  v9 := Tryz.zeroValue9
  t37 := Tryz.underlying25
  a37 := Tryz.isAgg25
  z37 := Tryz.sizeOf25
  v37 := Tryz.zeroValue25
  t46 := Tryz.underlying165
  a46 := Tryz.isAgg165
  z46 := Tryz.sizeOf165
  v46 := Tryz.zeroValue165
  t51 := Tryz.underlying179
  a51 := Tryz.isAgg179
  z51 := Tryz.sizeOf179
  v51 := Tryz.zeroValue179
  t146 := Tryz.underlying180
  a146 := Tryz.isAgg180
  z146 := Tryz.sizeOf180
  v146 := Tryz.zeroValue180
  g1 := by kernel_rfl }
end Go.Proofs

/-
  What a call of strconv.Itoa comes to, laid at this program.
-/
namespace Go.Proofs
open Go.Shelf
def Tryz.laysItoa9_ren : Go.Shelf.Ren := ⟨fun | 171 => 90 | 243 => 104 | 246 => 125 | 283 => 137 | 284 => 138 | 285 => 139 | 286 => 140 | 129 => 146 | 317 => 145 | 318 => 147 | 319 => 148 | 320 => 149 | 337 => 151 | 338 => 152 | n => n, fun | 3 => 3 | 9 => 9 | 2 => 2 | 4 => 4 | 171 => 187 | 0 => 0 | 53 => 177 | 37 => 25 | 5 => 5 | 173 => 190 | 212 => 200 | 51 => 179 | 20 => 20 | 213 => 201 | 46 => 165 | 232 => 205 | 233 => 206 | n => n, fun | 17 => 3 | 18 => 4 | 19 => 5 | n => n⟩
theorem Tryz.laysItoa9 : Go.Proofs.LaysM.n171 Tryz.prog Tryz.laysItoa9_ren := {
  mixed := by kernel_rfl
  f129 := Tryz.func146.trans (congrArg some (by kernel_rfl))
  f171 := Tryz.func90.trans (congrArg some (by kernel_rfl))
  f243 := Tryz.func104.trans (congrArg some (by kernel_rfl))
  f246 := Tryz.func125.trans (congrArg some (by kernel_rfl))
  f283 := Tryz.func137.trans (congrArg some (by kernel_rfl))
  f284 := Tryz.func138.trans (congrArg some (by kernel_rfl))
  f285 := Tryz.func139.trans (congrArg some (by kernel_rfl))
  f286 := Tryz.func140.trans (congrArg some (by kernel_rfl))
  f317 := Tryz.func145.trans (congrArg some (by kernel_rfl))
  f318 := Tryz.func147.trans (congrArg some (by kernel_rfl))
  f319 := Tryz.func148.trans (congrArg some (by kernel_rfl))
  f320 := Tryz.func149.trans (congrArg some (by kernel_rfl))
  f337 := Tryz.func151.trans (congrArg some (by kernel_rfl))
  f338 := Tryz.func152.trans (congrArg some (by kernel_rfl))
  t0 := Tryz.underlying0
  a0 := Tryz.isAgg0
  z0 := Tryz.sizeOf0
  v0 := Tryz.zeroValue0
  t2 := Tryz.underlying2
  a2 := Tryz.isAgg2
  z2 := Tryz.sizeOf2
  v2 := Tryz.zeroValue2
  t3 := Tryz.underlying3
  a3 := Tryz.isAgg3
  z3 := Tryz.sizeOf3
  v3 := Tryz.zeroValue3
  t4 := Tryz.underlying4
  a4 := Tryz.isAgg4
  z4 := Tryz.sizeOf4
  v4 := Tryz.zeroValue4
  t5 := Tryz.underlying5
  a5 := Tryz.isAgg5
  z5 := Tryz.sizeOf5
  v5 := Tryz.zeroValue5
  t9 := Tryz.underlying9
  a9 := Tryz.isAgg9
  z9 := Tryz.sizeOf9
  v9 := Tryz.zeroValue9
  t20 := Tryz.underlying20
  a20 := Tryz.isAgg20
  z20 := Tryz.sizeOf20
  v20 := Tryz.zeroValue20
  t37 := Tryz.underlying25
  a37 := Tryz.isAgg25
  z37 := Tryz.sizeOf25
  v37 := Tryz.zeroValue25
  t46 := Tryz.underlying165
  a46 := Tryz.isAgg165
  z46 := Tryz.sizeOf165
  v46 := Tryz.zeroValue165
  t51 := Tryz.underlying179
  a51 := Tryz.isAgg179
  z51 := Tryz.sizeOf179
  v51 := Tryz.zeroValue179
  t53 := Tryz.underlying177
  a53 := Tryz.isAgg177
  z53 := Tryz.sizeOf177
  v53 := Tryz.zeroValue177
  t171 := Tryz.underlying187
  a171 := Tryz.isAgg187
  z171 := Tryz.sizeOf187
  v171 := Tryz.zeroValue187
  t173 := Tryz.underlying190
  a173 := Tryz.isAgg190
  z173 := Tryz.sizeOf190
  v173 := Tryz.zeroValue190
  t212 := Tryz.underlying200
  a212 := Tryz.isAgg200
  z212 := Tryz.sizeOf200
  v212 := Tryz.zeroValue200
  t213 := Tryz.underlying201
  a213 := Tryz.isAgg201
  z213 := Tryz.sizeOf201
  t232 := Tryz.underlying205
  a232 := Tryz.isAgg205
  z232 := Tryz.sizeOf205
  v232 := Tryz.zeroValue205
  t233 := Tryz.underlying206
  a233 := Tryz.isAgg206
  z233 := Tryz.sizeOf206
  v233 := Tryz.zeroValue206
  g17 := by kernel_rfl
  g18 := by kernel_rfl
  g19 := by kernel_rfl
  i0 := by kernel_rfl
  i2 := by kernel_rfl
  i3 := by kernel_rfl
  i4 := by kernel_rfl
  i5 := by kernel_rfl
  i9 := by kernel_rfl
  i20 := by kernel_rfl
  i37 := by kernel_rfl
  i46 := by kernel_rfl
  i51 := by kernel_rfl
  i53 := by kernel_rfl
  i171 := by kernel_rfl
  i173 := by kernel_rfl
  i212 := by kernel_rfl
  i232 := by kernel_rfl
  i233 := by kernel_rfl
  m17 := by kernel_rfl
  m18 := by kernel_rfl
  m19 := by kernel_rfl }
open Go.RowKit Go.Sort Go.Lib in
theorem Tryz.strconv_Itoa9 (n : Int) (h0 : -9223372036854775808 ≤ n) (h1 : n ≤ 9223372036854775807) (w : World) (htab : Lib.TabIs Tryz.prog w "internal/strconv.uint64pow10" .u64 Lib.pow10Tab) :
    Calls Tryz.prog 90 #[.int .i64 n] w fun e w' => e = .returned (.string ⟨(Lib.itoa n).toArray⟩) ∧ ∃ k os, w' = grow (w.drewN k) os := Any.strconv_Itoa Tryz.laysItoa9 n h0 h1 w htab

end Go.Proofs

/-
  What calls of the library come to, in this program's words: strconv.Atoi, strconv.Itoa, bytes.Cut at one byte.
-/
namespace Go.Proofs.YtfcdhpkikhkmiaaGreatDoor
open Go.RowKit Go.Maps

theorem indexByte_cut (c : UInt8) : ∀ s : Bs, Lib.indexByte s c = match cutC c s with | none => -1 | some p => ((p.1.length : Nat) : Int)
  | [] => rfl
  | x :: r => by
    unfold Lib.indexByte cutC
    by_cases h : x = c
    · simp [h]
    · have h' : (x == c) = false := by simpa using h
      rw [h', if_neg h, indexByte_cut c r]
      cases hc : cutC c r with
      | none => simp
      | some p => simp <;> omega
theorem later_grow9 (w : World) (k : Nat) (os : Array Obj) : Later w (Sort.grow (w.drewN k) os) :=
  ⟨rfl, rfl, rfl, by simp [Sort.grow, World.drewN], fun i hi => by simp only [Sort.grow, World.drewN]; exact Array.getElem?_append_left hi⟩
def cutVal (A : Option Addr) (n c : Nat) : Option (Bs × Bs) → Value
  | none => .tuple #[.slice A n c, .slice none 0 0, .bool false]
  | some p => .tuple #[.slice A p.1.length c, .slice (if c = p.1.length + 1 then A else A.map (·.add (p.1.length + 1))) (n - (p.1.length + 1)) (c - (p.1.length + 1)), .bool true]
theorem cut_lens {c : UInt8} {s : Bs} {p : Bs × Bs} (h : cutC c s = some p) : p.1 = s.take p.1.length ∧ p.2 = s.drop (p.1.length + 1) ∧ p.1.length + 1 ≤ s.length := by
  have e := (cutC_some h).1
  have e1 : s.take p.1.length = p.1 := by rw [e, List.take_left]
  have e2 : s.drop (p.1.length + 1) = p.2 := by
    rw [e, List.drop_append, List.drop_of_length_le (by omega), Nat.add_sub_cancel_left]
    rfl
  refine ⟨e1.symm, e2.symm, ?_⟩
  have := congrArg List.length e
  simp at this
  omega
theorem index9_any (A : Option Addr) (n c b2 d : Nat) (bs : Bs) (cv : UInt8) (w : World) (h : BsAt w A n bs) (hA : A = none → c = 0) (hnc : n ≤ c) (hcell : w.cell? ⟨b2, 0, none⟩ = some (.int .u8 (cv.toNat : Int))) :
    Calls Tryz.prog 101 #[.slice A n c, .slice (some ⟨b2, 0, none⟩) 1 d] w fun e w' => e = .returned (.int .i64 (Lib.indexByte bs cv)) ∧ w' = w := by
  have e2 : ((cv.toNat : Int)).toNat.toUInt8 = cv := by simp
  cases A with
  | none =>
    obtain rfl := hA rfl
    obtain rfl : n = 0 := by omega
    obtain rfl : bs = [] := List.eq_nil_of_length_eq_zero h.len
    exact Any.bytes_Index_one_nil Tryz.laysBytesIndex b2 0 d _ w hcell
  | some a =>
    have hx : (numsOf bs).length = n := by rw [numsOf_length]; exact h.len
    have hc : ∀ i, i < n → w.cell? (a.add i) = some (.int .u8 ((numsOf bs).getD i 0)) := fun i hi => by
      obtain ⟨b, o, e, hq⟩ := h.bytesIn (by omega)
      cases e
      rw [plain_add]
      exact hq i hi
    have := Any.bytes_Index_one_at Tryz.laysBytesIndex a n c b2 0 d (numsOf bs) (cv.toNat : Int) w hx hc hcell
    rw [bytesOf_nums, e2] at this
    exact this

set_option maxRecDepth 100000 in
set_option maxHeartbeats 800000 in
theorem cut9_any (A : Option Addr) (n c b2 d : Nat) (bs : Bs) (cv : UInt8) (w : World) (h : BsAt w A n bs) (hA : A = none → c = 0) (hnc : n ≤ c) (hn : n ≤ 10000000) (hcell : w.cell? ⟨b2, 0, none⟩ = some (.int .u8 (cv.toNat : Int))) :
    Calls Tryz.prog 88 #[.slice A n c, .slice (some ⟨b2, 0, none⟩) 1 d] w fun e w' => e = .returned (cutVal A n c (cutC cv bs)) ∧ Later w w' := by
  have HI := Lib.hid (index9_any A n c b2 d bs cv w h hA hnc hcell)
  rw [indexByte_cut] at HI
  have hl := h.len
  clear h hcell hA
  cases hc : cutC cv bs with
  | none =>
    rw [hc] at HI
    dsimp only at HI
    unfold cutVal
    go_enter Tryz.func88, Tryz.ntmps88
    go_wp2_with fail
    refine HI.out.mono ?_
    rintro e w1 ⟨rfl, rfl⟩
    go_wp2
    go_ret3
    exact ⟨rfl, Later.refl _⟩
  | some p =>
    rw [hc] at HI
    dsimp only at HI
    obtain ⟨_, _, h3⟩ := cut_lens hc
    unfold cutVal
    dsimp only
    generalize p.1.length = k at HI h3
    rw [hl] at h3
    clear hc hl
    go_enter Tryz.func88, Tryz.ntmps88
    go_wp2_with fail
    refine HI.out.mono ?_
    rintro e w1 ⟨rfl, rfl⟩
    go_wp2
    go_region
    all_goals go_wp2
    all_goals go_ret3
    all_goals exact ⟨by simp [*], by first | exact Later.refl _ | exact (Later.refl _).drewN _⟩

def AtoiTells (t : Bs) (w : World) (e : Ending) (w' : World) : Prop :=
  Later w w' ∧ ((∃ v, Lib.atoiAll t = .ok v ∧ e = .returned (.tuple #[.int .i64 v, .nilIface])) ∨ ((∀ v, Lib.atoiAll t ≠ .ok v) ∧ ∃ v y p, e = .returned (.tuple #[.int .i64 v, .iface y p])))
theorem atoi9_any (s : ByteArray) (w : World) (hs : s.size ≤ 281474976710656) (hB : Base w) : Calls Tryz.prog 89 #[.string s] w (AtoiTells s.data.toList w) := by
  cases h : Lib.atoiAll s.data.toList with
  | ok v =>
    refine (Any.strconv_Atoi_ok Tryz.laysAtoi s (by omega) v h w).mono ?_
    rintro e w' ⟨rfl, hw⟩
    refine ⟨?_, .inl ⟨v, h, rfl⟩⟩
    rcases hw with rfl | ⟨t, rfl⟩
    · exact Later.refl _
    · exact Lib.bytesWorld_below _ _ _
  | «syntax» =>
    obtain ⟨ev, h1, h2⟩ := hB.syn
    refine (Any.strconv_Atoi_syntax Tryz.laysAtoi s hs h ev w h1 h2).mono ?_
    rintro e w' ⟨N, rfl, _, _, hb⟩
    exact ⟨hb, .inr ⟨(fun v e => by rw [h] at e; cases e), _, _, _, rfl⟩⟩
  | range =>
    obtain ⟨ev, h1, h2⟩ := hB.rng
    refine (Any.strconv_Atoi_range Tryz.laysAtoi s hs h ev w h1 h2).mono ?_
    rintro e w' ⟨N, rfl, _, _, hb⟩
    exact ⟨hb, .inr ⟨(fun v e => by rw [h] at e; cases e), _, _, _, rfl⟩⟩
theorem itoa9_any (n : Int) (w : World) (h0 : -9223372036854775808 ≤ n) (h1 : n ≤ 9223372036854775807) (hB : Base w) : Calls Tryz.prog 90 #[.int .i64 n] w fun e w' => e = .returned (.string ⟨(Lib.itoa n).toArray⟩) ∧ Later w w' := by
  refine (Tryz.strconv_Itoa9 n h0 h1 w hB.tab).mono ?_
  rintro e w' ⟨rfl, k, os, rfl⟩
  exact ⟨rfl, later_grow9 w k os⟩

end Go.Proofs.YtfcdhpkikhkmiaaGreatDoor

/-
  What an In's digits comes to, as a call.
-/
namespace Go.Proofs.YtfcdhpkikhkmiaaGreatDoor
open Go.RowKit Go.Maps

def Reads9 (W : World) (g : Nat) (bad : Bool) (s : Bs) (r : Option (Int × Bs)) (w : World) (e : Ending) (w' : World) : Prop :=
  Turned g w w' ∧ ((r = none ∧ (∃ n : Int, e = .returned (.tuple #[.int .i64 n, .bool false])) ∧ InAt W w' g s bad) ∨ ∃ n t, r = some (n, t) ∧ e = .returned (.tuple #[.int .i64 n, .bool true]) ∧ InAt W w' g t bad)

section
variable {W w w' : World} {g : Nat} {rest : Bs} {bad : Bool}
theorem InAt.of_turned {A : Option Addr} {c n : Nat} {cs : Bs} {b : Bool} (h : InAt W w g rest bad) (ht : Turned g w w') (hb : BoxAt w' g #[.slice A n c, .bool b] 92) (hr : BsAt w A n cs) (hn : n ≤ c) (hA : A = none → c = 0) (ho : Byty w A) (hm : cs.length ≤ 190000) : InAt W w' g cs b := by
  have hl := hr.len
  subst hl
  obtain ⟨cs0, h0⟩ := h.box
  exact ⟨⟨A, c, hb, hr.turned (c := c) ht (fun _ => ho.off h0 _ _), hn, hA, ho.turned h0 ht⟩, hm, h.base.turn ht h.gnew, h.gnew⟩
theorem InAt.move {V : World} {A2 : Option Addr} {n2 c2 : Nat} {cs : Bs} (h : InAt W w g rest bad) (hl : Later w V) (hr : BsAt w A2 n2 cs) (hle : n2 ≤ c2) (hA : A2 = none → c2 = 0) (ho : Byty w A2) (hm : cs.length ≤ 190000) :
    Turned g w (V.setCell ⟨g, 0, none⟩ (.slice A2 n2 c2)) ∧ InAt W (V.setCell ⟨g, 0, none⟩ (.slice A2 n2 c2)) g cs bad := by
  have ht : Turned g w (V.setCell ⟨g, 0, none⟩ (.slice A2 n2 c2)) := (hl.turned g).trans (turned_set V g 0 _)
  refine ⟨ht, ?_⟩
  obtain ⟨A, c, hb, _⟩ := h.own
  exact h.of_turned ht ((hb.later hl).set 0 _) hr hle hA ho hm
theorem InAt.cells (h : InAt W w g rest bad) : ∃ A c, w.cell? ⟨g, 0, none⟩ = some (.slice A rest.length c) ∧ w.cell? ⟨g, 1, none⟩ = some (.bool bad) ∧ BsAt w A rest.length rest ∧ rest.length ≤ c ∧ (A = none → c = 0) ∧ Byty w A ∧ ∀ i, w.frozen? ⟨g, i, none⟩ = false := by
  obtain ⟨A, c, hb, h2, h3, h4, h5⟩ := h.own
  exact ⟨A, c, hb.cell (i := 0) rfl, hb.cell (i := 1) rfl, h2, h3, h4, h5, fun i => hb.frozen i⟩
end

theorem string_bytes (w : World) (A : Option Addr) (n c : Nat) (bs : Bs) (h : BsAt w A n bs) : (convert 25 9 (.slice A n c)).run Tryz.prog w = .ok (.string ⟨bs.toArray⟩) w := by
  have hl := h.len
  rcases Nat.eq_zero_or_pos n with h0 | h0
  · subst h0
    obtain rfl : bs = [] := List.eq_nil_of_length_eq_zero hl
    exact run_convert_bytes_zero w _ 5 Tryz.underlying25 Tryz.underlying5 A c 9 Tryz.underlying9
  · obtain ⟨b, o, rfl, hc⟩ := h.2 h0
    subst hl
    refine run_convert_bytes_back w _ 9 5 _ c bs Tryz.underlying25 Tryz.underlying5 Tryz.underlying9 fun j hj => ?_
    rw [plain_add]
    exact hc j _ (List.getElem?_eq_getElem hj)

set_option maxRecDepth 100000 in
set_option maxHeartbeats 800000 in
theorem inDigits_any (W : World) (hB : Base W) (g : Nat) (rest : Bs) (bad : Bool) (c : UInt8) (w : World) (h : InAt W w g rest bad) :
    Calls Tryz.prog 70 #[.pointer (some ⟨g, 0, none⟩), .int .u8 (c.toNat : Int)] w (Reads9 W g bad rest (digitsR c rest) w) := by
  have HH := Lib.hid h
  obtain ⟨⟨A, cc, hb, hbs, hle, hA, ho⟩, hm, hbase, hg⟩ := h
  have q0 := hb.cell (i := 0) rfl
  have q1 := hb.cell (i := 1) rfl
  simp only [List.getElem_toArray, List.getElem_cons_zero, List.getElem_cons_succ] at q0 q1
  have hl1 : Later w (w.alloc (.cells #[.int .u8 (c.toNat : Int)] 5)) := (Later.refl w).alloc _
  have HC := Lib.hid (cut9_any A rest.length cc w.heap.size 1 rest c (w.alloc (.cells #[.int .u8 (c.toNat : Int)] 5)) (hbs.later hl1) hA hle (by omega) (by simp))
  have HL1 := Lib.hid hl1
  have HBS := Lib.hid hbs; have HHB := Lib.hid hb; have HO := Lib.hid ho; have HA := Lib.hid hA; have HBB := Lib.hid (hB.later hbase)
  have hgl := hb.lt
  unfold digitsR
  generalize hn : rest.length = n at HC hle HBS HHB q0 hm
  clear hb hbs hl1 ho hA hbase hg
  cases hc : cutC c rest with
  | none =>
    rw [hc] at HC
    unfold cutVal at HC
    clear hc
    go_enter Tryz.func70, Tryz.ntmps70
    go_wp2_with fail
    refine HC.out.mono ?_
    rintro e w1 ⟨rfl, hl2⟩
    have HL2 := Lib.hid (HL1.out.trans hl2)
    clear hl2 HC HL1
    go_wp2
    go_ret2
    exact ⟨HL2.out.turned g, .inl ⟨rfl, ⟨0, rfl⟩, HH.out.later HL2.out⟩⟩
  | some p =>
    rw [hc] at HC
    unfold cutVal at HC
    dsimp only [Option.bind_some] at HC ⊢
    obtain ⟨e1, e2, e3⟩ := cut_lens hc
    have HT : Hid (BsAt w A p.1.length p.1) := by
      have h1 := HBS.out.take (k := p.1.length) (by omega)
      rw [← e1] at h1
      exact h1
    have HR : Hid (BsAt w (if cc = p.1.length + 1 then A else A.map (·.add (p.1.length + 1))) (n - (p.1.length + 1)) p.2) := by
      have h1 := HBS.out.from_ (c := cc) (k := p.1.length + 1) (by omega) hle
      rw [← e2] at h1
      exact h1
    have HOR : Hid (Byty w (if cc = p.1.length + 1 then A else A.map (·.add (p.1.length + 1)))) := HO.out.cut _ _
    have HAR : Hid ((if cc = p.1.length + 1 then A else A.map (·.add (p.1.length + 1))) = none → cc - (p.1.length + 1) = 0) := fun e => by
      by_cases hcc : cc = p.1.length + 1
      · omega
      · rw [if_neg hcc] at e
        have := HA.out (by simpa using e)
        omega
    have HLE : Hid (n - (p.1.length + 1) ≤ cc - (p.1.length + 1)) := by show _ ≤ _; omega
    have HM2 : Hid (p.2.length ≤ 190000) := by show _ ≤ _; rw [e2, List.length_drop]; omega
    have HPS : Hid (p.1.length ≤ 281474976710656) := by show _ ≤ _; omega
    clear e1 e2 e3 hc hn hle
    generalize (if cc = p.1.length + 1 then A else A.map (·.add (p.1.length + 1))) = A2 at HC HR HOR HAR
    generalize n - (p.1.length + 1) = n2 at HC HR HLE
    generalize cc - (p.1.length + 1) = c2 at HC HAR HLE
    go_enter Tryz.func70, Tryz.ntmps70
    go_wp2_with fail
    refine HC.out.mono ?_
    rintro e w1 ⟨rfl, hl2⟩
    have HL2 := Lib.hid (HL1.out.trans hl2)
    have hcv := string_bytes w1 A p.1.length cc p.1 (HT.out.later HL2.out)
    clear hl2 HC HL1
    go_wp2_with fail
    refine (atoi9_any ⟨p.1.toArray⟩ w1 HPS.out (HBB.out.later HL2.out)).mono ?_
    rintro e w2 ⟨hl3, ha⟩
    have HL3 := Lib.hid (HL2.out.trans hl3)
    clear hl3 hcv
    rcases ha with ⟨v, hv, rfl⟩ | ⟨hv, v, y, q, rfl⟩
    · have HV := Lib.hid hv
      have HCV : Hid (∀ V, Later w2 V → (convert 25 9 (.slice A p.1.length cc)).run Tryz.prog V = .ok (.string ⟨p.1.toArray⟩) V) := fun V hV => string_bytes V A p.1.length cc p.1 ((HT.out.later HL3.out).later hV)
      have hb1 := Lib.atoiAll_bounds hv
      have HI := Lib.hid (fun V (hV : Later w2 V) => itoa9_any v V hb1.1 hb1.2 ((HBB.out.later HL3.out).later hV))
      have HK : Hid (canonC p.1 = if Lib.itoa v = p.1 then some v else none) := by
        unfold canonC
        have hv' : Lib.atoiAll p.1 = .ok v := hv
        rw [hv']
        exact rfl
      clear hv hb1
      by_cases hi : Lib.itoa v = p.1
      · rw [hi] at HI HK
        have hcv := HCV.out w2 (Later.refl _)
        have hcvA := HCV.out w2.drew (Later.refl _).drew
        have hcvB := HCV.out w2.drew.drew (Later.refl _).drew.drew
        clear HV hi
        go_wp2
        go_region_with (go_at_call 90; refine (HI.out _ (by first | exact Later.refl _ | exact (Later.refl _).drew | exact (Later.refl _).drewN _)).mono ?_; rintro e w3 ⟨rfl, hl4⟩; have HL4 : Hid (Later w2 w3) := Later.trans (by first | exact Later.refl _ | exact (Later.refl _).drew | exact (Later.refl _).drewN _) hl4; clear hl4; have hcv3 := HCV.out w3 HL4.out; have hcv4 := HCV.out w3.drew HL4.out.drew)
        all_goals
          have HLV := Lib.hid (HL3.out.trans HL4.out)
          have k1 : w3.cell? ⟨g, 0, none⟩ = some (.slice A n cc) := HLV.out.cell q0
          have k2 : w3.drew.cell? ⟨g, 0, none⟩ = some (.slice A n cc) := k1
          have k3 : w3.frozen? ⟨g, 0, none⟩ = false := (HHB.out.later HLV.out).frozen 0
          have k4 : w3.drew.frozen? ⟨g, 0, none⟩ = false := k3
          clear hcv hcvA hcvB hcv3 hcv4
          go_wp2
          go_ret2
          first
          | exact ⟨(HH.out.move HLV.out HR.out HLE.out HAR.out HOR.out HM2.out).1, .inr ⟨v, p.2, by rw [HK.out]; rfl, rfl, (HH.out.move HLV.out HR.out HLE.out HAR.out HOR.out HM2.out).2⟩⟩
          | exact ⟨(HH.out.move HLV.out.drew HR.out HLE.out HAR.out HOR.out HM2.out).1, .inr ⟨v, p.2, by rw [HK.out]; rfl, rfl, (HH.out.move HLV.out.drew HR.out HLE.out HAR.out HOR.out HM2.out).2⟩⟩
      · have hne : (⟨(Lib.itoa v).toArray⟩ : ByteArray) ≠ ⟨p.1.toArray⟩ := fun e => hi (by
          have e1 := congrArg (fun x : ByteArray => x.data.toList) e
          simpa using e1)
        have hbe := text_ne hne
        rw [if_neg hi] at HK
        have hcv := HCV.out w2 (Later.refl _)
        have hcvA := HCV.out w2.drew (Later.refl _).drew
        have hcvB := HCV.out w2.drew.drew (Later.refl _).drew.drew
        generalize (⟨(Lib.itoa v).toArray⟩ : ByteArray) = sI at HI hbe
        generalize (⟨p.1.toArray⟩ : ByteArray) = sT at HCV hcv hcvA hcvB hbe
        clear HV hi hne
        go_wp2
        go_region_with (go_at_call 90; refine (HI.out _ (by first | exact Later.refl _ | exact (Later.refl _).drew | exact (Later.refl _).drewN _)).mono ?_; rintro e w3 ⟨rfl, hl4⟩; have HL4 : Hid (Later w2 w3) := Later.trans (by first | exact Later.refl _ | exact (Later.refl _).drew | exact (Later.refl _).drewN _) hl4; clear hl4; have hcv3 := HCV.out w3 HL4.out; have hcv4 := HCV.out w3.drew HL4.out.drew)
        all_goals
          have HLV := Lib.hid (HL3.out.trans HL4.out)
          clear hcv hcvA hcvB hcv3 hcv4
          go_wp2
          go_ret2
          first
          | exact ⟨HLV.out.turned g, .inl ⟨by rw [HK.out]; rfl, ⟨0, rfl⟩, HH.out.later HLV.out⟩⟩
          | exact ⟨HLV.out.drew.turned g, .inl ⟨by rw [HK.out]; rfl, ⟨0, rfl⟩, HH.out.later HLV.out.drew⟩⟩
    · have HV := Lib.hid hv
      clear hv
      go_wp2
      go_region
      go_wp2
      go_ret2
      refine ⟨HL3.out.drew.turned g, .inl ⟨?_, ⟨0, rfl⟩, HH.out.later HL3.out.drew⟩⟩
      have : canonC p.1 = none := by
        unfold canonC
        cases h : Lib.atoiAll p.1 with
        | ok v => exact absurd h (HV.out v)
        | «syntax» => rfl
        | range => rfl
      rw [this]
      rfl

end Go.Proofs.YtfcdhpkikhkmiaaGreatDoor

/-
  What reading calls tell, and what an In's whole makes of them.
-/
namespace Go.Proofs.YtfcdhpkikhkmiaaGreatDoor
open Go.RowKit Go.Maps

def ReadsV {α : Type} (W : World) (g : Nat) (V : α → World → Value → Prop) (r : Option (α × Bs)) (w : World) (e : Ending) (w' : World) : Prop :=
  Turned g w w' ∧ ∃ v b t bad, e = .returned (.tuple #[v, .bool b]) ∧ InAt W w' g t bad ∧ ((∃ x, r = some (x, t) ∧ V x w' v ∧ b = true ∧ bad = false) ∨ (r = none ∧ (b && !bad) = false))
def GivesV {α : Type} (W : World) (g : Nat) (zero : Value) (V : α → World → Value → Prop) (r : Option (α × Bs)) (s : Bs) (w : World) (e : Ending) (w' : World) : Prop :=
  Turned g w w' ∧ ((r = none ∧ e = .returned zero ∧ InAt W w' g s true) ∨ ∃ x t v, r = some (x, t) ∧ e = .returned v ∧ V x w' v ∧ InAt W w' g t false)
theorem InAt.spoil {W w V : World} {g : Nat} {s t : Bs} {bad b : Bool} {A : Option Addr} {c : Nat} (h : InAt W w g s bad) (hV : InAt W V g t b) (ht : Turned g w V) (hc : w.cell? ⟨g, 0, none⟩ = some (.slice A s.length c)) :
    Turned g w ((V.setCell ⟨g, 0, none⟩ (.slice A s.length c)).setCell ⟨g, 1, none⟩ (.bool true)) ∧ InAt W ((V.setCell ⟨g, 0, none⟩ (.slice A s.length c)).setCell ⟨g, 1, none⟩ (.bool true)) g s true := by
  obtain ⟨⟨A1, c1, h1, h2, h3, h4, h5⟩, hm, hb, hg⟩ := h
  have e := h1.cell (i := 0) rfl
  rw [hc] at e
  simp only [List.getElem_toArray, List.getElem_cons_zero, Option.some.injEq, Value.slice.injEq, true_and] at e
  obtain ⟨rfl, rfl⟩ := e
  obtain ⟨⟨A2, c2, k1, _⟩, _⟩ := hV
  have htt : Turned g w ((V.setCell ⟨g, 0, none⟩ (.slice A s.length c)).setCell ⟨g, 1, none⟩ (.bool true)) := (ht.trans (turned_set V g 0 _)).trans (turned_set _ g 1 _)
  exact ⟨htt, ⟨⟨A, c, (k1.set 0 _).set 1 _, h2.turned (c := c) htt (fun _ => h5.off h1 _ _), h3, h4, h5.turned h1 htt⟩, hm, hb.turn htt hg, hg⟩⟩

set_option maxRecDepth 100000 in
set_option maxHeartbeats 800000 in
theorem wholeInt_any {α : Type} (W : World) (g : Nat) (s : Bs) (bad : Bool) (w : World) (f : Nat) (first captured : Array Value) (V : α → World → Value → Prop) (r : Option (α × Bs)) (h : InAt W w g s bad)
    (hf : ∀ args w, (callFunc f args).run Tryz.prog w = .ok (.enter f args) w)
    (hread : bad = false → Calls Tryz.prog f (first ++ captured) w (ReadsV W g V r w)) :
    Calls Tryz.prog 64 #[.pointer (some ⟨g, 0, none⟩), .func (.func f) first captured] w (GivesV W g (.int .i64 0) V (if bad = true then none else r) s w) := by
  have HH := Lib.hid h
  obtain ⟨A, c, q0, q1, _, _, _, _, fz⟩ := h.cells
  have f0 := fz 0
  have f1 := fz 1
  clear fz h
  cases bad with
  | true =>
    go_enter Tryz.func64, Tryz.ntmps64
    go_wp2
    go_ret
    exact ⟨(HH.out.spoil HH.out (Turned.refl _ _) q0).1, .inl ⟨rfl, rfl, (HH.out.spoil HH.out (Turned.refl _ _) q0).2⟩⟩
  | false =>
    have HR := Lib.hid (hread rfl)
    have HQ := Lib.hid q0
    clear hread
    go_enter Tryz.func64, Tryz.ntmps64
    go_wp2_with fail
    refine HR.out.mono ?_
    rintro e w1 ⟨ht, v, b, t, bd, rfl, hi, hc⟩
    have HT := Lib.hid ht; have HI := Lib.hid hi
    obtain ⟨A1, c1, p0, p1, _, _, _, _, fz⟩ := hi.cells
    have p2 := fz 0
    have p3 := fz 1
    clear fz ht hi q0 q1 f0 f1
    rcases hc with ⟨x, hr, hv, rfl, rfl⟩ | ⟨hr, hb⟩
    · have HX := Lib.hid hr; have HV := Lib.hid hv
      clear hr hv
      go_wp2
      go_ret
      exact ⟨HT.out, .inr ⟨x, t, v, HX.out, rfl, HV.out, HI.out⟩⟩
    · have HX := Lib.hid hr
      clear hr
      cases b with
      | false =>
        clear hb
        go_wp2
        go_ret
        exact ⟨(HH.out.spoil HI.out HT.out HQ.out).1, .inl ⟨HX.out, rfl, (HH.out.spoil HI.out HT.out HQ.out).2⟩⟩
      | true =>
        obtain rfl : bd = true := by simpa using hb
        clear hb
        go_wp2
        go_ret
        exact ⟨(HH.out.spoil HI.out HT.out HQ.out).1, .inl ⟨HX.out, rfl, (HH.out.spoil HI.out HT.out HQ.out).2⟩⟩

set_option maxRecDepth 100000 in
set_option maxHeartbeats 800000 in
theorem wholeBool_any {α : Type} (W : World) (g : Nat) (s : Bs) (bad : Bool) (w : World) (f : Nat) (first captured : Array Value) (V : α → World → Value → Prop) (r : Option (α × Bs)) (h : InAt W w g s bad)
    (hf : ∀ args w, (callFunc f args).run Tryz.prog w = .ok (.enter f args) w)
    (hread : bad = false → Calls Tryz.prog f (first ++ captured) w (ReadsV W g V r w)) :
    Calls Tryz.prog 66 #[.pointer (some ⟨g, 0, none⟩), .func (.func f) first captured] w (GivesV W g (.bool false) V (if bad = true then none else r) s w) := by
  have HH := Lib.hid h
  obtain ⟨A, c, q0, q1, _, _, _, _, fz⟩ := h.cells
  have f0 := fz 0
  have f1 := fz 1
  clear fz h
  cases bad with
  | true =>
    go_enter Tryz.func66, Tryz.ntmps66
    go_wp2
    go_ret
    exact ⟨(HH.out.spoil HH.out (Turned.refl _ _) q0).1, .inl ⟨rfl, rfl, (HH.out.spoil HH.out (Turned.refl _ _) q0).2⟩⟩
  | false =>
    have HR := Lib.hid (hread rfl)
    have HQ := Lib.hid q0
    clear hread
    go_enter Tryz.func66, Tryz.ntmps66
    go_wp2_with fail
    refine HR.out.mono ?_
    rintro e w1 ⟨ht, v, b, t, bd, rfl, hi, hc⟩
    have HT := Lib.hid ht; have HI := Lib.hid hi
    obtain ⟨A1, c1, p0, p1, _, _, _, _, fz⟩ := hi.cells
    have p2 := fz 0
    have p3 := fz 1
    clear fz ht hi q0 q1 f0 f1
    rcases hc with ⟨x, hr, hv, rfl, rfl⟩ | ⟨hr, hb⟩
    · have HX := Lib.hid hr; have HV := Lib.hid hv
      clear hr hv
      go_wp2
      go_ret
      exact ⟨HT.out, .inr ⟨x, t, v, HX.out, rfl, HV.out, HI.out⟩⟩
    · have HX := Lib.hid hr
      clear hr
      cases b with
      | false =>
        clear hb
        go_wp2
        go_ret
        exact ⟨(HH.out.spoil HI.out HT.out HQ.out).1, .inl ⟨HX.out, rfl, (HH.out.spoil HI.out HT.out HQ.out).2⟩⟩
      | true =>
        obtain rfl : bd = true := by simpa using hb
        clear hb
        go_wp2
        go_ret
        exact ⟨(HH.out.spoil HI.out HT.out HQ.out).1, .inl ⟨HX.out, rfl, (HH.out.spoil HI.out HT.out HQ.out).2⟩⟩

end Go.Proofs.YtfcdhpkikhkmiaaGreatDoor
