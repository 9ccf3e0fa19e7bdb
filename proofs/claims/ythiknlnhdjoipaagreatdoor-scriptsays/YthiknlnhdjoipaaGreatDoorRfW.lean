/-
  The contracts of the library functions that are called, at this program: each laying is a table of numbers and one theorem, a field a fact of the program. The reference's lists of words: which place a word has in one. The reference's three lists of words against the script's tables. The reference's reading of a number: as the program's.
-/
import Derived.Shelf.Strings.SplitShaped
import Derived.Shelf.Slices.Turned
import Derived.Shelf.Strconv.ParseIntPublic10
import Derived.Shelf.Strconv.Itoa4
import Derived.Test.YthiknlnhdjoipaaGreatDoorProg
import Derived.Test.YthiknlnhdjoipaaGreatDoorScR

namespace Go.Proofs
open Go.Shelf
def Tryz.laysM157_ren : Go.Shelf.Ren := ⟨fun | 157 => 29 | 229 => 52 | 199 => 53 | 261 => 83 | 311 => 115 | 312 => 116 | n => n, fun | 9 => 9 | 31 => 40 | 3 => 3 | 5 => 5 | 4 => 4 | 119 => 99 | 0 => 0 | 40 => 101 | 152 => 128 | 21 => 21 | 154 => 130 | 51 => 131 | 141 => 133 | 196 => 157 | 193 => 154 | 198 => 160 | 49 => 158 | 194 => 155 | 201 => 163 | 226 => 176 | 46 => 88 | 227 => 177 | n => n, fun | 0 => 3 | 6 => 4 | n => n⟩
theorem Tryz.laysM157 : Go.Proofs.LaysM.n157 Tryz.prog Tryz.laysM157_ren := {
  mixed := by kernel_rfl
  f157 := Tryz.func29.trans (congrArg some (by kernel_rfl))
  f199 := Tryz.func53.trans (congrArg some (by kernel_rfl))
  f229 := Tryz.func52.trans (congrArg some (by kernel_rfl))
  f261 := Tryz.func83.trans (congrArg some (by kernel_rfl))
  f311 := Tryz.func115.trans (congrArg some (by kernel_rfl))
  f312 := Tryz.func116.trans (congrArg some (by kernel_rfl))
  t0 := Tryz.underlying0
  a0 := Tryz.isAgg0
  z0 := Tryz.sizeOf0
  v0 := Tryz.zeroValue0
  t3 := Tryz.underlying3
  a3 := Tryz.isAgg3
  z3 := Tryz.sizeOf3
  v3 := Tryz.zeroValue3
  t4 := Tryz.underlying4
  a4 := Tryz.isAgg4
  z4 := Tryz.sizeOf4
  v4 := Tryz.zeroValue4
  t5 := Tryz.underlying5
  a5 := Tryz.isAgg5
  z5 := Tryz.sizeOf5
  v5 := Tryz.zeroValue5
  t9 := Tryz.underlying9
  a9 := Tryz.isAgg9
  z9 := Tryz.sizeOf9
  v9 := Tryz.zeroValue9
  t21 := Tryz.underlying21
  a21 := Tryz.isAgg21
  z21 := Tryz.sizeOf21
  v21 := Tryz.zeroValue21
  t31 := Tryz.underlying40
  a31 := Tryz.isAgg40
  z31 := Tryz.sizeOf40
  v31 := Tryz.zeroValue40
  t40 := Tryz.underlying101
  a40 := Tryz.isAgg101
  z40 := Tryz.sizeOf101
  v40 := Tryz.zeroValue101
  t46 := Tryz.underlying88
  a46 := Tryz.isAgg88
  z46 := Tryz.sizeOf88
  v46 := Tryz.zeroValue88
  t49 := Tryz.underlying158
  a49 := Tryz.isAgg158
  z49 := Tryz.sizeOf158
  v49 := Tryz.zeroValue158
  t51 := Tryz.underlying131
  a51 := Tryz.isAgg131
  z51 := Tryz.sizeOf131
  v51 := Tryz.zeroValue131
  t119 := Tryz.underlying99
  a119 := Tryz.isAgg99
  z119 := Tryz.sizeOf99
  t141 := Tryz.underlying133
  a141 := Tryz.isAgg133
  z141 := Tryz.sizeOf133
  v141 := Tryz.zeroValue133
  t152 := Tryz.underlying128
  a152 := Tryz.isAgg128
  z152 := Tryz.sizeOf128
  v152 := Tryz.zeroValue128
  t154 := Tryz.underlying130
  a154 := Tryz.isAgg130
  z154 := Tryz.sizeOf130
  v154 := Tryz.zeroValue130
  t193 := Tryz.underlying154
  a193 := Tryz.isAgg154
  z193 := Tryz.sizeOf154
  v193 := Tryz.zeroValue154
  t194 := Tryz.underlying155
  a194 := Tryz.isAgg155
  z194 := Tryz.sizeOf155
  v194 := Tryz.zeroValue155
  t196 := Tryz.underlying157
  a196 := Tryz.isAgg157
  z196 := Tryz.sizeOf157
  v196 := Tryz.zeroValue157
  t198 := Tryz.underlying160
  a198 := Tryz.isAgg160
  z198 := Tryz.sizeOf160
  v198 := Tryz.zeroValue160
  t201 := Tryz.underlying163
  a201 := Tryz.isAgg163
  z201 := Tryz.sizeOf163
  v201 := Tryz.zeroValue163
  t226 := Tryz.underlying176
  a226 := Tryz.isAgg176
  z226 := Tryz.sizeOf176
  v226 := Tryz.zeroValue176
  t227 := Tryz.underlying177
  a227 := Tryz.isAgg177
  z227 := Tryz.sizeOf177
  v227 := Tryz.zeroValue177
  g0 := by kernel_rfl
  g6 := by kernel_rfl
  i0 := by kernel_rfl
  i3 := by kernel_rfl
  i4 := by kernel_rfl
  i5 := by kernel_rfl
  i9 := by kernel_rfl
  i21 := by kernel_rfl
  i31 := by kernel_rfl
  i40 := by kernel_rfl
  i46 := by kernel_rfl
  i49 := by kernel_rfl
  i51 := by kernel_rfl
  i141 := by kernel_rfl
  i152 := by kernel_rfl
  i154 := by kernel_rfl
  i193 := by kernel_rfl
  i194 := by kernel_rfl
  i196 := by kernel_rfl
  i198 := by kernel_rfl
  i201 := by kernel_rfl
  i226 := by kernel_rfl
  i227 := by kernel_rfl
  m0 := by kernel_rfl
  m6 := by kernel_rfl }
def Tryz.laysM146_ren : Go.Shelf.Ren := ⟨fun | 146 => 33 | 221 => 54 | 268 => 84 | 138 => 85 | 143 => 86 | 195 => 117 | 197 => 89 | 218 => 118 | 219 => 77 | 260 => 119 | 217 => 108 | 225 => 109 | 224 => 110 | 267 => 111 | 266 => 129 | 314 => 130 | n => n, fun | 9 => 9 | 31 => 40 | 3 => 3 | 4 => 4 | 0 => 0 | 105 => 136 | 21 => 21 | 5 => 5 | 46 => 88 | 119 => 99 | 139 => 180 | 138 => 179 | 146 => 174 | 51 => 131 | n => n, fun | 1 => 5 | 3 => 9 | 4 => 10 | n => n⟩
theorem Tryz.laysM146 : Go.Proofs.LaysM.n146 Tryz.prog Tryz.laysM146_ren := {
  mixed := by kernel_rfl
  f138 := Tryz.func85.trans (congrArg some (by kernel_rfl))
  f143 := Tryz.func86.trans (congrArg some (by kernel_rfl))
  f146 := Tryz.func33.trans (congrArg some (by kernel_rfl))
  f195 := Tryz.func117.trans (congrArg some (by kernel_rfl))
  f197 := Tryz.func89.trans (congrArg some (by kernel_rfl))
  f217 := Tryz.func108.trans (congrArg some (by kernel_rfl))
  f218 := Tryz.func118.trans (congrArg some (by kernel_rfl))
  f219 := Tryz.func77.trans (congrArg some (by kernel_rfl))
  f221 := Tryz.func54.trans (congrArg some (by kernel_rfl))
  f224 := Tryz.func110.trans (congrArg some (by kernel_rfl))
  f225 := Tryz.func109.trans (congrArg some (by kernel_rfl))
  f260 := Tryz.func119.trans (congrArg some (by kernel_rfl))
  f266 := Tryz.func129.trans (congrArg some (by kernel_rfl))
  f267 := Tryz.func111.trans (congrArg some (by kernel_rfl))
  f268 := Tryz.func84.trans (congrArg some (by kernel_rfl))
  f314 := Tryz.func130.trans (congrArg some (by kernel_rfl))
  t0 := Tryz.underlying0
  a0 := Tryz.isAgg0
  z0 := Tryz.sizeOf0
  v0 := Tryz.zeroValue0
  t3 := Tryz.underlying3
  a3 := Tryz.isAgg3
  z3 := Tryz.sizeOf3
  v3 := Tryz.zeroValue3
  t4 := Tryz.underlying4
  a4 := Tryz.isAgg4
  z4 := Tryz.sizeOf4
  v4 := Tryz.zeroValue4
  t5 := Tryz.underlying5
  a5 := Tryz.isAgg5
  z5 := Tryz.sizeOf5
  v5 := Tryz.zeroValue5
  t9 := Tryz.underlying9
  a9 := Tryz.isAgg9
  z9 := Tryz.sizeOf9
  v9 := Tryz.zeroValue9
  t21 := Tryz.underlying21
  a21 := Tryz.isAgg21
  z21 := Tryz.sizeOf21
  v21 := Tryz.zeroValue21
  t31 := Tryz.underlying40
  a31 := Tryz.isAgg40
  z31 := Tryz.sizeOf40
  v31 := Tryz.zeroValue40
  t46 := Tryz.underlying88
  a46 := Tryz.isAgg88
  z46 := Tryz.sizeOf88
  v46 := Tryz.zeroValue88
  t51 := Tryz.underlying131
  a51 := Tryz.isAgg131
  z51 := Tryz.sizeOf131
  v51 := Tryz.zeroValue131
  t105 := Tryz.underlying136
  a105 := Tryz.isAgg136
  z105 := Tryz.sizeOf136
  v105 := Tryz.zeroValue136
  t119 := Tryz.underlying99
  a119 := Tryz.isAgg99
  z119 := Tryz.sizeOf99
  t138 := Tryz.underlying179
  a138 := Tryz.isAgg179
  z138 := Tryz.sizeOf179
  v138 := Tryz.zeroValue179
  t139 := Tryz.underlying180
  a139 := Tryz.isAgg180
  z139 := Tryz.sizeOf180
  v139 := Tryz.zeroValue180
  t146 := Tryz.underlying174
  a146 := Tryz.isAgg174
  z146 := Tryz.sizeOf174
  v146 := Tryz.zeroValue174
  g1 := by kernel_rfl
  g3 := by kernel_rfl
  g4 := by kernel_rfl
  i0 := by kernel_rfl
  i3 := by kernel_rfl
  i4 := by kernel_rfl
  i5 := by kernel_rfl
  i9 := by kernel_rfl
  i21 := by kernel_rfl
  i31 := by kernel_rfl
  i46 := by kernel_rfl
  i51 := by kernel_rfl
  i105 := by kernel_rfl
  i138 := by kernel_rfl
  i139 := by kernel_rfl
  i146 := by kernel_rfl
  m1 := by kernel_rfl
  s1_3 := fun w h => Go.Proofs.cell_of_shapedOpen_int (zero := #[.int .i64 0]) (t := 3) h (of_decide_eq_true (by kernel_rfl)) (by kernel_rfl) rfl (by kernel_rfl) (by kernel_rfl) Tryz.underlying3
  m3 := by kernel_rfl
  m4 := by kernel_rfl }
def Tryz.lays109_ren : Go.Shelf.Ren := ⟨fun | 109 => 55 | n => n, fun | 31 => 40 | 9 => 9 | 3 => 3 | 0 => 0 | 4 => 4 | n => n, fun | n => n⟩
theorem Tryz.lays109 : Go.Proofs.Lays.n109 Tryz.prog Tryz.lays109_ren := {
  mixed := by kernel_rfl
  f109 := Tryz.func55.trans (congrArg some (by kernel_rfl))
  t0 := Tryz.underlying0
  a0 := Tryz.isAgg0
  z0 := Tryz.sizeOf0
  v0 := Tryz.zeroValue0
  t3 := Tryz.underlying3
  a3 := Tryz.isAgg3
  z3 := Tryz.sizeOf3
  v3 := Tryz.zeroValue3
  t4 := Tryz.underlying4
  a4 := Tryz.isAgg4
  z4 := Tryz.sizeOf4
  v4 := Tryz.zeroValue4
  t9 := Tryz.underlying9
  a9 := Tryz.isAgg9
  z9 := Tryz.sizeOf9
  v9 := Tryz.zeroValue9
  t31 := Tryz.underlying40
  a31 := Tryz.isAgg40
  z31 := Tryz.sizeOf40
  v31 := Tryz.zeroValue40 }
def Tryz.lays110_ren : Go.Shelf.Ren := ⟨fun | 110 => 35 | 109 => 55 | n => n, fun | 31 => 40 | 9 => 9 | 4 => 4 | 3 => 3 | 0 => 0 | n => n, fun | n => n⟩
theorem Tryz.lays110 : Go.Proofs.Lays.n110 Tryz.prog Tryz.lays110_ren := {
  mixed := by kernel_rfl
  f109 := Tryz.func55.trans (congrArg some (by kernel_rfl))
  f110 := Tryz.func35.trans (congrArg some (by kernel_rfl))
  t0 := Tryz.underlying0
  a0 := Tryz.isAgg0
  z0 := Tryz.sizeOf0
  v0 := Tryz.zeroValue0
  t3 := Tryz.underlying3
  a3 := Tryz.isAgg3
  z3 := Tryz.sizeOf3
  v3 := Tryz.zeroValue3
  t4 := Tryz.underlying4
  a4 := Tryz.isAgg4
  z4 := Tryz.sizeOf4
  v4 := Tryz.zeroValue4
  t9 := Tryz.underlying9
  a9 := Tryz.isAgg9
  z9 := Tryz.sizeOf9
  v9 := Tryz.zeroValue9
  t31 := Tryz.underlying40
  a31 := Tryz.isAgg40
  z31 := Tryz.sizeOf40
  v31 := Tryz.zeroValue40 }
def Tryz.lays174_ren : Go.Shelf.Ren := ⟨fun | 174 => 56 | 247 => 87 | 245 => 66 | 287 => 65 | 279 => 94 | 280 => 95 | 281 => 96 | 282 => 97 | 321 => 92 | 322 => 93 | 316 => 122 | 171 => 16 | 205 => 123 | 243 => 44 | 246 => 76 | 283 => 104 | 284 => 105 | 285 => 106 | 286 => 107 | 129 => 125 | 317 => 124 | 318 => 126 | 319 => 127 | 320 => 128 | 337 => 134 | 338 => 135 | n => n, fun | 9 => 9 | 3 => 3 | 2 => 2 | 75 => 42 | 85 => 104 | 4 => 4 | 167 => 139 | 5 => 5 | 53 => 82 | 175 => 83 | 46 => 88 | 168 => 141 | 37 => 37 | 0 => 0 | 210 => 168 | 21 => 21 | 127 => 89 | 145 => 183 | 143 => 181 | 171 => 146 | 173 => 149 | 212 => 171 | 51 => 131 | 20 => 20 | 213 => 172 | 232 => 186 | 233 => 187 | 80 => 61 | n => n, fun | 15 => 6 | 16 => 7 | 17 => 8 | 18 => 11 | 19 => 12 | n => n⟩
theorem Tryz.lays174 : Go.Proofs.LaysC.n174 Tryz.prog Tryz.lays174_ren := {
  mixed := by kernel_rfl
  f129 := Tryz.func125.trans (congrArg some (by kernel_rfl))
  f171 := Tryz.func16.trans (congrArg some (by kernel_rfl))
  f174 := Tryz.func56.trans (congrArg some (by kernel_rfl))
  f205 := Tryz.func123.trans (congrArg some (by kernel_rfl))
  f243 := Tryz.func44.trans (congrArg some (by kernel_rfl))
  f245 := Tryz.func66.trans (congrArg some (by kernel_rfl))
  f246 := Tryz.func76.trans (congrArg some (by kernel_rfl))
  f247 := Tryz.func87.trans (congrArg some (by kernel_rfl))
  f279 := Tryz.func94.trans (congrArg some (by kernel_rfl))
  f280 := Tryz.func95.trans (congrArg some (by kernel_rfl))
  f281 := Tryz.func96.trans (congrArg some (by kernel_rfl))
  f282 := Tryz.func97.trans (congrArg some (by kernel_rfl))
  f283 := Tryz.func104.trans (congrArg some (by kernel_rfl))
  f284 := Tryz.func105.trans (congrArg some (by kernel_rfl))
  f285 := Tryz.func106.trans (congrArg some (by kernel_rfl))
  f286 := Tryz.func107.trans (congrArg some (by kernel_rfl))
  f287 := Tryz.func65.trans (congrArg some (by kernel_rfl))
  f316 := Tryz.func122.trans (congrArg some (by kernel_rfl))
  f317 := Tryz.func124.trans (congrArg some (by kernel_rfl))
  f318 := Tryz.func126.trans (congrArg some (by kernel_rfl))
  f319 := Tryz.func127.trans (congrArg some (by kernel_rfl))
  f320 := Tryz.func128.trans (congrArg some (by kernel_rfl))
  f321 := Tryz.func92.trans (congrArg some (by kernel_rfl))
  f322 := Tryz.func93.trans (congrArg some (by kernel_rfl))
  f337 := Tryz.func134.trans (congrArg some (by kernel_rfl))
  f338 := Tryz.func135.trans (congrArg some (by kernel_rfl))
  t0 := Tryz.underlying0
  a0 := Tryz.isAgg0
  z0 := Tryz.sizeOf0
  v0 := Tryz.zeroValue0
  t2 := Tryz.underlying2
  a2 := Tryz.isAgg2
  z2 := Tryz.sizeOf2
  v2 := Tryz.zeroValue2
  t3 := Tryz.underlying3
  a3 := Tryz.isAgg3
  z3 := Tryz.sizeOf3
  v3 := Tryz.zeroValue3
  t4 := Tryz.underlying4
  a4 := Tryz.isAgg4
  z4 := Tryz.sizeOf4
  v4 := Tryz.zeroValue4
  t5 := Tryz.underlying5
  a5 := Tryz.isAgg5
  z5 := Tryz.sizeOf5
  v5 := Tryz.zeroValue5
  t9 := Tryz.underlying9
  a9 := Tryz.isAgg9
  z9 := Tryz.sizeOf9
  v9 := Tryz.zeroValue9
  t20 := Tryz.underlying20
  a20 := Tryz.isAgg20
  z20 := Tryz.sizeOf20
  v20 := Tryz.zeroValue20
  t21 := Tryz.underlying21
  a21 := Tryz.isAgg21
  z21 := Tryz.sizeOf21
  v21 := Tryz.zeroValue21
  t37 := Tryz.underlying37
  a37 := Tryz.isAgg37
  z37 := Tryz.sizeOf37
  v37 := Tryz.zeroValue37
  t46 := Tryz.underlying88
  a46 := Tryz.isAgg88
  z46 := Tryz.sizeOf88
  v46 := Tryz.zeroValue88
  t51 := Tryz.underlying131
  a51 := Tryz.isAgg131
  z51 := Tryz.sizeOf131
  v51 := Tryz.zeroValue131
  t53 := Tryz.underlying82
  a53 := Tryz.isAgg82
  z53 := Tryz.sizeOf82
  v53 := Tryz.zeroValue82
  t75 := Tryz.underlying42
  a75 := Tryz.isAgg42
  z75 := Tryz.sizeOf42
  v75 := Tryz.zeroValue42
  t85 := Tryz.underlying104
  a85 := Tryz.isAgg104
  z85 := Tryz.sizeOf104
  v85 := Tryz.zeroValue104
  t127 := Tryz.underlying89
  a127 := Tryz.isAgg89
  z127 := Tryz.sizeOf89
  v127 := Tryz.zeroValue89
  t143 := Tryz.underlying181
  a143 := Tryz.isAgg181
  z143 := Tryz.sizeOf181
  v143 := Tryz.zeroValue181
  t145 := Tryz.underlying183
  a145 := Tryz.isAgg183
  z145 := Tryz.sizeOf183
  v145 := Tryz.zeroValue183
  t167 := Tryz.underlying139
  a167 := Tryz.isAgg139
  z167 := Tryz.sizeOf139
  v167 := Tryz.zeroValue139
  t168 := Tryz.underlying141
  a168 := Tryz.isAgg141
  z168 := Tryz.sizeOf141
  v168 := Tryz.zeroValue141
  t171 := Tryz.underlying146
  a171 := Tryz.isAgg146
  z171 := Tryz.sizeOf146
  v171 := Tryz.zeroValue146
  t173 := Tryz.underlying149
  a173 := Tryz.isAgg149
  z173 := Tryz.sizeOf149
  v173 := Tryz.zeroValue149
  t175 := Tryz.underlying83
  a175 := Tryz.isAgg83
  z175 := Tryz.sizeOf83
  v175 := Tryz.zeroValue83
  t210 := Tryz.underlying168
  a210 := Tryz.isAgg168
  z210 := Tryz.sizeOf168
  v210 := Tryz.zeroValue168
  t212 := Tryz.underlying171
  a212 := Tryz.isAgg171
  z212 := Tryz.sizeOf171
  v212 := Tryz.zeroValue171
  t213 := Tryz.underlying172
  a213 := Tryz.isAgg172
  z213 := Tryz.sizeOf172
  t232 := Tryz.underlying186
  a232 := Tryz.isAgg186
  z232 := Tryz.sizeOf186
  v232 := Tryz.zeroValue186
  t233 := Tryz.underlying187
  a233 := Tryz.isAgg187
  z233 := Tryz.sizeOf187
  v233 := Tryz.zeroValue187
  g15 := by kernel_rfl
  g16 := by kernel_rfl
  g17 := by kernel_rfl
  g18 := by kernel_rfl
  g19 := by kernel_rfl
  t80 := Tryz.underlying61
  a80 := Tryz.isAgg61
  z80 := Tryz.sizeOf61
  v80 := Tryz.zeroValue61
  i0 := by kernel_rfl
  i2 := by kernel_rfl
  i3 := by kernel_rfl
  i4 := by kernel_rfl
  i5 := by kernel_rfl
  i9 := by kernel_rfl
  i20 := by kernel_rfl
  i21 := by kernel_rfl
  i37 := by kernel_rfl
  i46 := by kernel_rfl
  i51 := by kernel_rfl
  i53 := by kernel_rfl
  i75 := by kernel_rfl
  i80 := by kernel_rfl
  i85 := by kernel_rfl
  i127 := by kernel_rfl
  i143 := by kernel_rfl
  i145 := by kernel_rfl
  i167 := by kernel_rfl
  i168 := by kernel_rfl
  i171 := by kernel_rfl
  i173 := by kernel_rfl
  i175 := by kernel_rfl
  i210 := by kernel_rfl
  i212 := by kernel_rfl
  i232 := by kernel_rfl
  i233 := by kernel_rfl
  m15 := by kernel_rfl
  m16 := by kernel_rfl
  m17 := by kernel_rfl
  m18 := by kernel_rfl
  m19 := by kernel_rfl
  c0 := by kernel_rfl
  c2 := by kernel_rfl
  c3 := by kernel_rfl
  c4 := by kernel_rfl
  c5 := by kernel_rfl
  c9 := by kernel_rfl
  c20 := by kernel_rfl
  c21 := by kernel_rfl
  c37 := by kernel_rfl
  c46 := by kernel_rfl
  c51 := by kernel_rfl
  c53 := by kernel_rfl
  c75 := by kernel_rfl
  c80 := by kernel_rfl
  c85 := by kernel_rfl
  c127 := by kernel_rfl
  c143 := by kernel_rfl
  c145 := by kernel_rfl
  c167 := by kernel_rfl
  c168 := by kernel_rfl
  c171 := by kernel_rfl
  c173 := by kernel_rfl
  c175 := by kernel_rfl
  c210 := by kernel_rfl
  c212 := by kernel_rfl
  c213 := by kernel_rfl
  c232 := by kernel_rfl
  c233 := by kernel_rfl }
def Tryz.lays173_ren : Go.Shelf.Ren := ⟨fun | 173 => 57 | 246 => 76 | 283 => 104 | 284 => 105 | 285 => 106 | 286 => 107 | 129 => 125 | 317 => 124 | 318 => 126 | 319 => 127 | 320 => 128 | 337 => 134 | 338 => 135 | n => n, fun | 2 => 2 | 3 => 3 | 9 => 9 | 4 => 4 | 171 => 146 | 0 => 0 | 53 => 82 | 37 => 37 | 5 => 5 | 173 => 149 | 212 => 171 | 51 => 131 | 20 => 20 | 213 => 172 | 46 => 88 | 232 => 186 | 233 => 187 | n => n, fun | 17 => 8 | 18 => 11 | 19 => 12 | n => n⟩
theorem Tryz.lays173 : Go.Proofs.LaysM.n173 Tryz.prog Tryz.lays173_ren := {
  mixed := by kernel_rfl
  f129 := Tryz.func125.trans (congrArg some (by kernel_rfl))
  f173 := Tryz.func57.trans (congrArg some (by kernel_rfl))
  f246 := Tryz.func76.trans (congrArg some (by kernel_rfl))
  f283 := Tryz.func104.trans (congrArg some (by kernel_rfl))
  f284 := Tryz.func105.trans (congrArg some (by kernel_rfl))
  f285 := Tryz.func106.trans (congrArg some (by kernel_rfl))
  f286 := Tryz.func107.trans (congrArg some (by kernel_rfl))
  f317 := Tryz.func124.trans (congrArg some (by kernel_rfl))
  f318 := Tryz.func126.trans (congrArg some (by kernel_rfl))
  f319 := Tryz.func127.trans (congrArg some (by kernel_rfl))
  f320 := Tryz.func128.trans (congrArg some (by kernel_rfl))
  f337 := Tryz.func134.trans (congrArg some (by kernel_rfl))
  f338 := Tryz.func135.trans (congrArg some (by kernel_rfl))
  t0 := Tryz.underlying0
  a0 := Tryz.isAgg0
  z0 := Tryz.sizeOf0
  v0 := Tryz.zeroValue0
  t2 := Tryz.underlying2
  a2 := Tryz.isAgg2
  z2 := Tryz.sizeOf2
  v2 := Tryz.zeroValue2
  t3 := Tryz.underlying3
  a3 := Tryz.isAgg3
  z3 := Tryz.sizeOf3
  v3 := Tryz.zeroValue3
  t4 := Tryz.underlying4
  a4 := Tryz.isAgg4
  z4 := Tryz.sizeOf4
  v4 := Tryz.zeroValue4
  t5 := Tryz.underlying5
  a5 := Tryz.isAgg5
  z5 := Tryz.sizeOf5
  v5 := Tryz.zeroValue5
  t9 := Tryz.underlying9
  a9 := Tryz.isAgg9
  z9 := Tryz.sizeOf9
  v9 := Tryz.zeroValue9
  t20 := Tryz.underlying20
  a20 := Tryz.isAgg20
  z20 := Tryz.sizeOf20
  v20 := Tryz.zeroValue20
  t37 := Tryz.underlying37
  a37 := Tryz.isAgg37
  z37 := Tryz.sizeOf37
  v37 := Tryz.zeroValue37
  t46 := Tryz.underlying88
  a46 := Tryz.isAgg88
  z46 := Tryz.sizeOf88
  v46 := Tryz.zeroValue88
  t51 := Tryz.underlying131
  a51 := Tryz.isAgg131
  z51 := Tryz.sizeOf131
  v51 := Tryz.zeroValue131
  t53 := Tryz.underlying82
  a53 := Tryz.isAgg82
  z53 := Tryz.sizeOf82
  v53 := Tryz.zeroValue82
  t171 := Tryz.underlying146
  a171 := Tryz.isAgg146
  z171 := Tryz.sizeOf146
  v171 := Tryz.zeroValue146
  t173 := Tryz.underlying149
  a173 := Tryz.isAgg149
  z173 := Tryz.sizeOf149
  v173 := Tryz.zeroValue149
  t212 := Tryz.underlying171
  a212 := Tryz.isAgg171
  z212 := Tryz.sizeOf171
  v212 := Tryz.zeroValue171
  t213 := Tryz.underlying172
  a213 := Tryz.isAgg172
  z213 := Tryz.sizeOf172
  t232 := Tryz.underlying186
  a232 := Tryz.isAgg186
  z232 := Tryz.sizeOf186
  v232 := Tryz.zeroValue186
  t233 := Tryz.underlying187
  a233 := Tryz.isAgg187
  z233 := Tryz.sizeOf187
  v233 := Tryz.zeroValue187
  g17 := by kernel_rfl
  g18 := by kernel_rfl
  g19 := by kernel_rfl
  i0 := by kernel_rfl
  i2 := by kernel_rfl
  i3 := by kernel_rfl
  i4 := by kernel_rfl
  i5 := by kernel_rfl
  i9 := by kernel_rfl
  i20 := by kernel_rfl
  i37 := by kernel_rfl
  i46 := by kernel_rfl
  i51 := by kernel_rfl
  i53 := by kernel_rfl
  i171 := by kernel_rfl
  i173 := by kernel_rfl
  i212 := by kernel_rfl
  i232 := by kernel_rfl
  i233 := by kernel_rfl
  m17 := by kernel_rfl
  m18 := by kernel_rfl
  m19 := by kernel_rfl }
end Go.Proofs

namespace Go.Proofs.YthiknlnhdjoipaaGreatDoor
open Go Go.RowKit
set_option linter.unusedVariables false

/-- the library's table of blanks -/
def Blanks (w : World) : Prop := Lib.TabIs Tryz.prog w "strings.asciiSpace" .u8 Lib.asciiSpaceTab
theorem Blanks.on {w w' : World} {B : Nat} (h : Blanks w) (hb : Below B w w') (hB : 3 < B) : Blanks w' := by
  have hg : Tryz.prog.globalNamed "strings.asciiSpace" = some 3 := by kernel_rfl
  unfold Blanks Lib.TabIs World.var? at h ⊢
  rw [hg] at h ⊢
  simp only [Option.bind_some] at h ⊢
  rw [hb.block _ hB]
  exact h

def atLeast (k : Int) : Int := if k < 1 then 0 else k

theorem word_gen (c : ByteArray) (fl : List ByteArray) (hfl : (Lib.fields (M.txt c)).map (fun l => (⟨l.toArray⟩ : ByteArray)) = fl) (hn : c.size < 1000) (hl : fl.length ≤ 100) (hasc : ∀ x ∈ M.txt c, x.toNat < 128) (s : ByteArray) (w : World) (hB : Blanks w) :
    Calls Tryz.prog 36 #[.string c, .string s] w fun e w' => e = .returned (.int .i64 (atLeast (Lib.idxOfS fl s))) ∧ Below w.heap.size w w' := by
  have hlen : (Lib.fields (M.txt c)).length = fl.length := by rw [← hfl, List.length_map]
  have hcell : ((Lib.fields (M.txt c)).map fun l => Value.string ⟨l.toArray⟩) = fl.map Value.string := by rw [← hfl, List.map_map]; rfl
  have HF : Hid (Calls Tryz.prog 29 #[.string c] w fun e w' => e = .returned (.slice (some ⟨w.heap.size, 0, none⟩) fl.length fl.length) ∧ w' = w.alloc (.cells (fl.map Value.string).toArray 9)) := by
    have := Any.strings_Fields_laid (P := Tryz.prog) (ρ := Tryz.laysM157_ren) Tryz.laysM157 c w (by omega) (fun j b hb => hasc b (List.mem_of_getElem? hb)) hB
    rw [show Lib.fields c.data.toList = Lib.fields (M.txt c) from rfl, hlen, hcell] at this
    exact this
  have HI : Hid (Calls Tryz.prog 55 #[.slice (some ⟨w.heap.size, 0, none⟩) fl.length fl.length, .string s] (w.alloc (.cells (fl.map Value.string).toArray 9)) fun e w' => e = .returned (.int .i64 (Lib.idxOfS fl s)) ∧ w' = w.alloc (.cells (fl.map Value.string).toArray 9)) := by
    have := Any.slices_Index_string (P := Tryz.prog) (ρ := Tryz.lays109_ren) Tryz.lays109 w.heap.size 0 fl.length fl.length fl s (w.alloc (.cells (fl.map Value.string).toArray 9)) (Nat.le_refl _) (by omega) (fun j hj => by
      rw [World.cell?_alloc_at _ _ _ _ rfl]
      simp [hj])
    rw [List.take_length] at this
    exact this
  clear hfl hlen hcell
  generalize fl.length = n at *
  generalize (fl.map Value.string).toArray = arr at *
  generalize Lib.idxOfS fl s = k at *
  by_cases hk : k < 1
  · have HX : Hid (atLeast k = 0) := if_pos hk
    generalize atLeast k = R at *
    go_enter Tryz.func36, Tryz.ntmps36
    go_wp2_with (first | (go_at_call 29; refine HF.out.mono ?_; rintro e w1 ⟨rfl, rfl⟩) | (go_at_call 55; refine HI.out.mono ?_; rintro e w2 ⟨rfl, rfl⟩))
    go_ret
    exact ⟨ret_int HX.out.symm, (Below.refl _ _).alloc (Nat.le_refl _) _⟩
  · have HX : Hid (atLeast k = k) := if_neg hk
    generalize atLeast k = R at *
    go_enter Tryz.func36, Tryz.ntmps36
    go_wp2_with (first | (go_at_call 29; refine HF.out.mono ?_; rintro e w1 ⟨rfl, rfl⟩) | (go_at_call 55; refine HI.out.mono ?_; rintro e w2 ⟨rfl, rfl⟩))
    go_ret
    exact ⟨ret_int HX.out.symm, (Below.refl _ _).alloc (Nat.le_refl _) _⟩

end Go.Proofs.YthiknlnhdjoipaaGreatDoor

namespace Go.Proofs.YthiknlnhdjoipaaGreatDoor
open Go Go.RowKit
set_option linter.unusedVariables false

def foundV (o : Option Nat) : Int := match o with | some k => (k : Int) | none => -1

theorem str_inj {a b : M.Txt} : M.str a = M.str b ↔ a = b := ⟨fun h => by have := congrArg M.txt h; rwa [txt_str, txt_str] at this, fun h => by rw [h]⟩

theorem idx_find (t : M.Txt) : ∀ (l : List M.Txt) (i : Nat), Lib.idxFromS (l.map M.str) (M.str t) i = foundV (M.findFrom i l t)
  | [], i => rfl
  | x :: l, i => by
    simp only [List.map_cons, Lib.idxFromS, M.findFrom]
    by_cases h : x = t
    · rw [if_pos h]
      simp [h, foundV]
    · rw [if_neg h, ← idx_find t l (i + 1)]
      have : ¬ (M.str x = M.str t) := fun e => h (str_inj.1 e)
      simp [this]

theorem atLeast_found (o : Option Nat) : atLeast (foundV o) = ((o.getD 0 : Nat) : Int) := by
  cases o with
  | none => rfl
  | some k =>
    show (if (k : Int) < 1 then 0 else (k : Int)) = (k : Int)
    by_cases h : (k : Int) < 1
    · rw [if_pos h]; omega
    · rw [if_neg h]

theorem findS_eq (t : M.Txt) (ht : t ≠ []) : (M.findFrom 0 [[45], [99, 111, 100, 101], [102, 105, 120, 101, 100], [116, 101, 120, 116], [100, 97, 116, 97], [122, 101, 114, 111]] t).getD 0 = (M.find M.sectT t).getD 0 := by
  have ht' : ¬ ([] = t) := fun h => ht h.symm
  simp only [M.find, M.sectT, M.findFrom, if_neg ht']
  by_cases h : ([45] : M.Txt) = t
  · subst h; decide
  · rw [if_neg h]

theorem wordS_any (t : M.Txt) (ht : t ≠ []) (w : World) (hB : Blanks w) :
    Calls Tryz.prog 36 #[.string ⟨#[45, 32, 99, 111, 100, 101, 32, 102, 105, 120, 101, 100, 32, 116, 101, 120, 116, 32, 100, 97, 116, 97, 32, 122, 101, 114, 111]⟩, .string (M.str t)] w fun e w' => e = .returned (.int .i64 (((M.find M.sectT t).getD 0 : Nat) : Int)) ∧ Below w.heap.size w w' := by
  have h := word_gen ⟨#[45, 32, 99, 111, 100, 101, 32, 102, 105, 120, 101, 100, 32, 116, 101, 120, 116, 32, 100, 97, 116, 97, 32, 122, 101, 114, 111]⟩ (([[45], [99, 111, 100, 101], [102, 105, 120, 101, 100], [116, 101, 120, 116], [100, 97, 116, 97], [122, 101, 114, 111]] : List M.Txt).map M.str) (by decide +kernel) (by decide) (by decide) (by decide) (M.str t) w hB
  rw [Lib.idxOfS, idx_find, atLeast_found, findS_eq t ht] at h
  exact h

theorem findK_eq (t : M.Txt) (ht : t ≠ []) : (M.findFrom 0 [[45], [97, 98, 115, 49], [97, 98, 115, 50], [114, 101, 108, 49], [114, 101, 108, 50]] t).getD 0 = (M.find M.kindT t).getD 0 := by
  have ht' : ¬ ([] = t) := fun h => ht h.symm
  simp only [M.find, M.kindT, M.findFrom, if_neg ht']
  by_cases h : ([45] : M.Txt) = t
  · subst h; decide
  · rw [if_neg h]

theorem wordK_any (t : M.Txt) (ht : t ≠ []) (w : World) (hB : Blanks w) :
    Calls Tryz.prog 36 #[.string ⟨#[45, 32, 97, 98, 115, 49, 32, 97, 98, 115, 50, 32, 114, 101, 108, 49, 32, 114, 101, 108, 50]⟩, .string (M.str t)] w fun e w' => e = .returned (.int .i64 (((M.find M.kindT t).getD 0 : Nat) : Int)) ∧ Below w.heap.size w w' := by
  have h := word_gen ⟨#[45, 32, 97, 98, 115, 49, 32, 97, 98, 115, 50, 32, 114, 101, 108, 49, 32, 114, 101, 108, 50]⟩ (([[45], [97, 98, 115, 49], [97, 98, 115, 50], [114, 101, 108, 49], [114, 101, 108, 50]] : List M.Txt).map M.str) (by decide +kernel) (by decide) (by decide) (by decide) (M.str t) w hB
  rw [Lib.idxOfS, idx_find, atLeast_found, findK_eq t ht] at h
  exact h

theorem findD_eq (t : M.Txt) (ht : t ≠ []) : (M.findFrom 0 [[45], [115, 116, 114, 111, 110, 103], [119, 101, 97, 107], [99, 111, 109, 109, 111, 110]] t).getD 0 = (M.find M.defT t).getD 0 := by
  have ht' : ¬ ([] = t) := fun h => ht h.symm
  simp only [M.find, M.defT, M.findFrom, if_neg ht']
  by_cases h : ([45] : M.Txt) = t
  · subst h; decide
  · rw [if_neg h]

theorem wordD_any (t : M.Txt) (ht : t ≠ []) (w : World) (hB : Blanks w) :
    Calls Tryz.prog 36 #[.string ⟨#[45, 32, 115, 116, 114, 111, 110, 103, 32, 119, 101, 97, 107, 32, 99, 111, 109, 109, 111, 110]⟩, .string (M.str t)] w fun e w' => e = .returned (.int .i64 (((M.find M.defT t).getD 0 : Nat) : Int)) ∧ Below w.heap.size w w' := by
  have h := word_gen ⟨#[45, 32, 115, 116, 114, 111, 110, 103, 32, 119, 101, 97, 107, 32, 99, 111, 109, 109, 111, 110]⟩ (([[45], [115, 116, 114, 111, 110, 103], [119, 101, 97, 107], [99, 111, 109, 109, 111, 110]] : List M.Txt).map M.str) (by decide +kernel) (by decide) (by decide) (by decide) (M.str t) w hB
  rw [Lib.idxOfS, idx_find, atLeast_found, findD_eq t ht] at h
  exact h

end Go.Proofs.YthiknlnhdjoipaaGreatDoor

namespace Go.Proofs.YthiknlnhdjoipaaGreatDoor
open Go Go.RowKit
set_option linter.unusedVariables false

theorem parseM_64 : ∀ (l : M.Txt) (acc : Nat), Lib.parseUintM (2 ^ 64 - 1) acc l = Lib.parseUint10 acc l
  | [], acc => rfl
  | c :: r, acc => by
    simp only [Lib.parseUintM, Lib.parseUint10, parseM_64 r]
    by_cases h : 48 ≤ c.toNat ∧ c.toNat ≤ 57
    · rw [if_pos h, if_pos h]
      by_cases h1 : 1844674407370955162 ≤ acc
      · simp [h1]
      · by_cases h2 : 18446744073709551616 ≤ acc * 10 + (c.toNat - 48)
        · have h3 : 18446744073709551615 < acc * 10 + (c.toNat - 48) := by omega
          simp [h1, h2, h3]
        · have h3 : ¬ (18446744073709551615 < acc * 10 + (c.toNat - 48)) := by omega
          simp [h1, h2, h3]
    · rw [if_neg h, if_neg h]

theorem parseInt_64 (l : M.Txt) : Lib.parseIntB 64 l = Lib.atoiAll l := by
  have hu : ∀ m, Lib.parseUintB 64 m = Lib.parseMag m := fun m => by
    unfold Lib.parseUintB Lib.parseMag
    rw [parseM_64]
  cases l with
  | nil => rfl
  | cons c r => simp only [Lib.parseIntB, Lib.atoiAll, hu]; rfl

theorem formatInt_any (n : Int) (hn : Fits n) (w : World) (h : Glob w) :
    Calls Tryz.prog 57 #[.int .i64 n, .int .i64 10] w fun e w' => e = .returned (.string (M.str (Lib.itoa n))) ∧ Below w.heap.size w w' := by
  refine (Any.strconv_FormatInt_10 (P := Tryz.prog) (ρ := Tryz.lays173_ren) Tryz.lays173 n hn.1 hn.2 w h.pow).mono ?_
  rintro e w' ⟨he, k, os, rfl⟩
  exact ⟨he, Lib.below_grow _ _ (Nat.le_refl _) _ _⟩

theorem parseInt_ok (s : ByteArray) (v : Int) (w : World) (hs : s.size ≤ 100000) (h : Lib.atoiAll (M.txt s) = .ok v) :
    Calls Tryz.prog 56 #[.string s, .int .i64 10, .int .i64 64] w fun e w' => e = .returned (.tuple #[.int .i64 v, .nilIface]) ∧ Below w.heap.size w w' := by
  refine (Any.strconv_ParseInt_10_at64_ok (P := Tryz.prog) (ρ := Tryz.lays174_ren) Tryz.lays174 s (by omega) v ((parseInt_64 _).trans h) w).mono ?_
  rintro e w' ⟨he, hw⟩
  refine ⟨he, ?_⟩
  rcases hw with rfl | ⟨t, rfl⟩
  · exact Below.refl _ _
  · exact Lib.bytesWorld_below _ _ _

theorem parseInt_no (s : ByteArray) (w : World) (hs : s.size ≤ 100000) (hG : Glob w) (h : Lib.atoiAll (M.txt s) = .«syntax» ∨ Lib.atoiAll (M.txt s) = .range) :
    Calls Tryz.prog 56 #[.string s, .int .i64 10, .int .i64 64] w fun e w' => (∃ n N, e = .returned (.tuple #[.int .i64 n, .iface 141 (.pointer (some ⟨N, 0, none⟩))])) ∧ Below w.heap.size w w' := by
  rcases h with h | h
  · obtain ⟨ev, h1, h2⟩ := hG.syn
    refine (Any.strconv_ParseInt_10_at64_syntax (P := Tryz.prog) (ρ := Tryz.lays174_ren) Tryz.lays174 s (by omega) ((parseInt_64 _).trans h) ev w h1 h2).mono ?_
    rintro e w' ⟨N, he, _, _, hb⟩
    exact ⟨⟨_, N, he⟩, hb⟩
  · obtain ⟨ev, h1, h2⟩ := hG.rng
    refine (Any.strconv_ParseInt_10_at64_range (P := Tryz.prog) (ρ := Tryz.lays174_ren) Tryz.lays174 s (by omega) ((parseInt_64 _).trans h) ev w h1 h2).mono ?_
    rintro e w' ⟨N, he, _, _, hb⟩
    exact ⟨⟨_, N, he⟩, hb⟩

theorem whole_any (s : ByteArray) (hs : s.size ≤ 100000) (w : World) (hG : Glob w) :
    Calls Tryz.prog 37 #[.string s] w fun e w' => (∃ n, e = .returned (.tuple #[.int .i64 n, .bool (M.num (M.txt s)).isSome]) ∧ ∀ v, M.num (M.txt s) = some v → n = v) ∧ Below w.heap.size w w' := by
  by_cases hok : ∃ v, Lib.atoiAll (M.txt s) = .ok v
  · obtain ⟨v, hv⟩ := hok
    have HA : Hid (Calls Tryz.prog 56 #[.string s, .int .i64 10, .int .i64 64] w fun e w' => e = .returned (.tuple #[.int .i64 v, .nilIface]) ∧ Below w.heap.size w w') := parseInt_ok s v w hs hv
    have HI : Hid (∀ W, Below w.heap.size w W → Calls Tryz.prog 57 #[.int .i64 v, .int .i64 10] W fun e w' => e = .returned (.string (M.str (Lib.itoa v))) ∧ Below W.heap.size W w') := fun W hW => formatInt_any v (Lib.atoiAll_bounds hv) W (hG.later hW)
    cases he : ((M.str (Lib.itoa v)).toList == s.toList)
    · have HN : Hid (M.num (M.txt s) = none) := by
        have := eqB_false he
        rw [txt_str] at this
        rw [Hid, M.num, hv]
        simp only [if_neg this]
      generalize M.num (M.txt s) = R at *
      generalize M.str (Lib.itoa v) = iv at *
      clear hv
      go_enter Tryz.func37, Tryz.ntmps37
      go_wp2_with (first | (go_at_call 56; refine HA.out.mono ?_; rintro e w1 ⟨rfl, hb1⟩) | (go_at_call 57; refine (HI.out _ hb1).mono ?_; rintro e w2 ⟨rfl, hb2⟩))
      go_ret2
      exact ⟨⟨v, by rw [HN.out]; rfl, fun v' hv' => by rw [HN.out] at hv'; cases hv'⟩, hb1.trans (hb2.mono hb1.size)⟩
    · have HN : Hid (M.num (M.txt s) = some v) := by
        have := eqB_true he
        rw [txt_str] at this
        rw [Hid, M.num, hv]
        simp only [if_pos this]
      generalize M.num (M.txt s) = R at *
      generalize M.str (Lib.itoa v) = iv at *
      clear hv
      go_enter Tryz.func37, Tryz.ntmps37
      go_wp2_with (first | (go_at_call 56; refine HA.out.mono ?_; rintro e w1 ⟨rfl, hb1⟩) | (go_at_call 57; refine (HI.out _ hb1).mono ?_; rintro e w2 ⟨rfl, hb2⟩))
      go_ret2
      exact ⟨⟨v, by rw [HN.out]; rfl, fun v' hv' => by rw [HN.out] at hv'; cases hv'; rfl⟩, hb1.trans (hb2.mono hb1.size)⟩
  · have hno : Lib.atoiAll (M.txt s) = .«syntax» ∨ Lib.atoiAll (M.txt s) = .range := by
      cases h : Lib.atoiAll (M.txt s) with
      | ok v => exact absurd ⟨v, h⟩ hok
      | «syntax» => exact .inl rfl
      | range => exact .inr rfl
    have HN : Hid (M.num (M.txt s) = none) := by
      rw [Hid, M.num]
      rcases hno with h | h <;> rw [h]
    have HA : Hid (Calls Tryz.prog 56 #[.string s, .int .i64 10, .int .i64 64] w fun e w' => (∃ n N, e = .returned (.tuple #[.int .i64 n, .iface 141 (.pointer (some ⟨N, 0, none⟩))])) ∧ Below w.heap.size w w') := parseInt_no s w hs hG hno
    generalize M.num (M.txt s) = R at *
    clear hno hok
    go_enter Tryz.func37, Tryz.ntmps37
    go_wp2_with (go_at_call 56; refine HA.out.mono ?_; rintro e w1 ⟨⟨n, N, rfl⟩, hb1⟩)
    go_ret2
    exact ⟨⟨n, by rw [HN.out]; rfl, fun v' hv' => by rw [HN.out] at hv'; cases hv'⟩, hb1⟩

end Go.Proofs.YthiknlnhdjoipaaGreatDoor
