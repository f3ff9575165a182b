/- The library's contracts at this program's numbers: each by one application. -/
import Derived.Shelf.Strings.Builder1
import Derived.Shelf.Strings.Builder2
import Derived.Shelf.Small.Bits
import Derived.Shelf.Small.Strs
import Derived.Shelf.Strings.BuilderF
import Derived.Shelf.Strconv.Itoa0
import Derived.Shelf.Strings.Search1
import Derived.Shelf.Strings.Search2
import Derived.Shelf.Strings.Search3
import Derived.Shelf.Strings.Count
import Derived.Shelf.LaysM
import Derived.Shelf.Strings.Shaped
import Derived.Shelf.Strings.Prefix
import Derived.Shelf.Strings.Split
import Derived.Shelf.Strings.SplitShaped
import Derived.Shelf.Bits.Mul64
import Derived.Shelf.Strings.Repeat
import Derived.Shelf.Unicode.DecodeSlow
import Derived.Shelf.Bytes.SlSearch0
import Derived.Ground.SlbCloneProg
import Derived.Shelf.Bytes.SlClone
import Derived.Ground.SlgfProg
import Derived.Shelf.SlicesE.IndexFunc
import Derived.Ground.SlgmProg
import Derived.Shelf.SortM.Plain
import Derived.Shelf.SortM.SortNone
import Derived.Shelf.Bytes.SlEqualAll
import Derived.Shelf.Bytes.Small
import Derived.Test.YtgcgomdhdgjpdaaGreatDoorProg
import Derived.Test.YtgcgomdhdgjpdaaGreatDoorMNmMaths
namespace Go.Proofs
open Go.Shelf
def Tryz.lays137_ren : Go.Shelf.Ren := ⟨fun | 137 => 137 | 217 => 167 | 266 => 184 | n => n, fun | 9 => 9 | 5 => 5 | 3 => 3 | n => n, fun | n => n⟩
theorem Tryz.lays137 : Go.Proofs.Lays.n137 Tryz.prog Tryz.lays137_ren := {
 mixed := by kernel_rfl
 f137 := Tryz.func137.trans (congrArg some (by kernel_rfl))
 f217 := Tryz.func167.trans (congrArg some (by kernel_rfl))
 f266 := Tryz.func184.trans (congrArg some (by kernel_rfl))
 t3 := Tryz.underlying3
 a3 := Tryz.isAgg3
 z3 := Tryz.sizeOf3
 v3 := Tryz.zeroValue3
 t5 := Tryz.underlying5
 a5 := Tryz.isAgg5
 z5 := Tryz.sizeOf5
 v5 := Tryz.zeroValue5
 t9 := Tryz.underlying9
 a9 := Tryz.isAgg9
 z9 := Tryz.sizeOf9
 v9 := Tryz.zeroValue9 }
open Go.RowKit in
theorem Tryz.strings_IndexByte (s : ByteArray) (c : Int) (w : World) :
  Calls Tryz.prog 137 #[.string s, .int .u8 c] w fun e w' => e = .returned (.int .i64 (Lib.indexByte s.data.toList c.toNat.toUInt8)) ∧ w' = w := Any.strings_IndexByte Tryz.lays137 s c w
def Tryz.laysM219_ren : Go.Shelf.Ren := ⟨fun | 219 => 194 | 217 => 167 | 225 => 196 | 224 => 197 | 267 => 198 | 266 => 184 | 314 => 199 | n => n, fun | 9 => 9 | 3 => 3 | 4 => 4 | 5 => 5 | 46 => 49 | 146 => 248 | 51 => 112 | n => n, fun | 1 => 24 | n => n⟩
theorem Tryz.laysM219 : Go.Proofs.LaysM.n219 Tryz.prog Tryz.laysM219_ren := {
 mixed := by kernel_rfl
 f217 := Tryz.func167.trans (congrArg some (by kernel_rfl))
 f219 := Tryz.func194.trans (congrArg some (by kernel_rfl))
 f224 := Tryz.func197.trans (congrArg some (by kernel_rfl))
 f225 := Tryz.func196.trans (congrArg some (by kernel_rfl))
 f266 := Tryz.func184.trans (congrArg some (by kernel_rfl))
 f267 := Tryz.func198.trans (congrArg some (by kernel_rfl))
 f314 := Tryz.func199.trans (congrArg some (by kernel_rfl))
 t3 := Tryz.underlying3
 a3 := Tryz.isAgg3
 z3 := Tryz.sizeOf3
 v3 := Tryz.zeroValue3
 t4 := Tryz.underlying4
 a4 := Tryz.isAgg4
 z4 := Tryz.sizeOf4
 v4 := Tryz.zeroValue4
 t5 := Tryz.underlying5
 a5 := Tryz.isAgg5
 z5 := Tryz.sizeOf5
 v5 := Tryz.zeroValue5
 t9 := Tryz.underlying9
 a9 := Tryz.isAgg9
 z9 := Tryz.sizeOf9
 v9 := Tryz.zeroValue9
 t46 := Tryz.underlying49
 a46 := Tryz.isAgg49
 z46 := Tryz.sizeOf49
 v46 := Tryz.zeroValue49
 t51 := Tryz.underlying112
 a51 := Tryz.isAgg112
 z51 := Tryz.sizeOf112
 v51 := Tryz.zeroValue112
 t146 := Tryz.underlying248
 a146 := Tryz.isAgg248
 z146 := Tryz.sizeOf248
 v146 := Tryz.zeroValue248
 g1 := by kernel_rfl
 i3 := by kernel_rfl
 i4 := by kernel_rfl
 i5 := by kernel_rfl
 i9 := by kernel_rfl
 i46 := by kernel_rfl
 i51 := by kernel_rfl
 i146 := by kernel_rfl
 m1 := by kernel_rfl
 s1_3 := fun w h => Go.Proofs.cell_of_shapedOpen_int (zero := #[.int .i64 0]) (t := 3) h (of_decide_eq_true (by kernel_rfl)) (by kernel_rfl) rfl (by kernel_rfl) (by kernel_rfl) Tryz.underlying3 }
def Tryz.lays146_ren : Go.Shelf.Ren := ⟨fun | 146 => 151 | 221 => 175 | 268 => 187 | 138 => 188 | 143 => 189 | 195 => 191 | 197 => 192 | 218 => 193 | 219 => 194 | 260 => 195 | 217 => 167 | 225 => 196 | 224 => 197 | 267 => 198 | 266 => 184 | 314 => 199 | n => n, fun | 9 => 9 | 31 => 77 | 3 => 3 | 4 => 4 | 0 => 0 | 105 => 268 | 21 => 21 | 5 => 5 | 46 => 49 | 119 => 270 | 139 => 273 | 138 => 272 | 146 => 248 | 51 => 112 | n => n, fun | 1 => 24 | 3 => 25 | 4 => 26 | n => n⟩
theorem Tryz.lays146 : Go.Proofs.Lays.n146 Tryz.prog Tryz.lays146_ren := {
 mixed := by kernel_rfl
 f138 := Tryz.func188.trans (congrArg some (by kernel_rfl))
 f143 := Tryz.func189.trans (congrArg some (by kernel_rfl))
 f146 := Tryz.func151.trans (congrArg some (by kernel_rfl))
 f195 := Tryz.func191.trans (congrArg some (by kernel_rfl))
 f197 := Tryz.func192.trans (congrArg some (by kernel_rfl))
 f217 := Tryz.func167.trans (congrArg some (by kernel_rfl))
 f218 := Tryz.func193.trans (congrArg some (by kernel_rfl))
 f219 := Tryz.func194.trans (congrArg some (by kernel_rfl))
 f221 := Tryz.func175.trans (congrArg some (by kernel_rfl))
 f224 := Tryz.func197.trans (congrArg some (by kernel_rfl))
 f225 := Tryz.func196.trans (congrArg some (by kernel_rfl))
 f260 := Tryz.func195.trans (congrArg some (by kernel_rfl))
 f266 := Tryz.func184.trans (congrArg some (by kernel_rfl))
 f267 := Tryz.func198.trans (congrArg some (by kernel_rfl))
 f268 := Tryz.func187.trans (congrArg some (by kernel_rfl))
 f314 := Tryz.func199.trans (congrArg some (by kernel_rfl))
 t0 := Tryz.underlying0
 a0 := Tryz.isAgg0
 z0 := Tryz.sizeOf0
 v0 := Tryz.zeroValue0
 t3 := Tryz.underlying3
 a3 := Tryz.isAgg3
 z3 := Tryz.sizeOf3
 v3 := Tryz.zeroValue3
 t4 := Tryz.underlying4
 a4 := Tryz.isAgg4
 z4 := Tryz.sizeOf4
 v4 := Tryz.zeroValue4
 t5 := Tryz.underlying5
 a5 := Tryz.isAgg5
 z5 := Tryz.sizeOf5
 v5 := Tryz.zeroValue5
 t9 := Tryz.underlying9
 a9 := Tryz.isAgg9
 z9 := Tryz.sizeOf9
 v9 := Tryz.zeroValue9
 t21 := Tryz.underlying21
 a21 := Tryz.isAgg21
 z21 := Tryz.sizeOf21
 v21 := Tryz.zeroValue21
 t31 := Tryz.underlying77
 a31 := Tryz.isAgg77
 z31 := Tryz.sizeOf77
 v31 := Tryz.zeroValue77
 t46 := Tryz.underlying49
 a46 := Tryz.isAgg49
 z46 := Tryz.sizeOf49
 v46 := Tryz.zeroValue49
 t51 := Tryz.underlying112
 a51 := Tryz.isAgg112
 z51 := Tryz.sizeOf112
 v51 := Tryz.zeroValue112
 t105 := Tryz.underlying268
 a105 := Tryz.isAgg268
 z105 := Tryz.sizeOf268
 v105 := Tryz.zeroValue268
 t119 := Tryz.underlying270
 a119 := Tryz.isAgg270
 z119 := Tryz.sizeOf270
 t138 := Tryz.underlying272
 a138 := Tryz.isAgg272
 z138 := Tryz.sizeOf272
 v138 := Tryz.zeroValue272
 t139 := Tryz.underlying273
 a139 := Tryz.isAgg273
 z139 := Tryz.sizeOf273
 v139 := Tryz.zeroValue273
 t146 := Tryz.underlying248
 a146 := Tryz.isAgg248
 z146 := Tryz.sizeOf248
 v146 := Tryz.zeroValue248
 g1 := by kernel_rfl
 g3 := by kernel_rfl
 g4 := by kernel_rfl }
open Go.RowKit Go.Lib in
theorem Tryz.strings_Split (s sep : ByteArray) (m : Int) (w : World) (hs : s.size < 4294967281) (hm : w.cell? ⟨24, 0, none⟩ = some (.int .i64 m)) (h1 : 1 ≤ sep.size) :
  Calls Tryz.prog 151 #[.string s, .string sep] w fun e w' =>
   e = .returned (.slice (some ⟨w.heap.size, 0, none⟩) (Lib.countB s sep + 1) (Lib.countB s sep + 1)) ∧ w' = w.alloc (.cells ((Lib.splitB sep 0 (Lib.countB s sep) s).map Value.string).toArray 9) := Any.strings_Split Tryz.lays146 (by kernel_rfl) s sep m w hs hm h1
def Tryz.lays105_ren : Go.Shelf.Ren := ⟨fun | 105 => 109 | 212 => 140 | 99 => 141 | 165 => 142 | 166 => 143 | 170 => 144 | 169 => 145 | 263 => 168 | 264 => 169 | 206 => 170 | 240 => 171 | 241 => 172 | 276 => 185 | 277 => 186 | n => n, fun | 9 => 9 | 3 => 3 | 4 => 4 | 20 => 20 | 0 => 0 | 46 => 49 | 109 => 221 | 5 => 5 | 72 => 225 | 76 => 227 | 51 => 112 | 146 => 248 | 53 => 115 | 148 => 250 | 70 => 223 | 37 => 46 | 75 => 35 | 127 => 252 | 164 => 263 | 80 => 229 | n => n, fun | n => n⟩
theorem Tryz.lays105 : Go.Proofs.Lays.n105 Tryz.prog Tryz.lays105_ren := {
 mixed := by kernel_rfl
 f99 := Tryz.func141.trans (congrArg some (by kernel_rfl))
 f105 := Tryz.func109.trans (congrArg some (by kernel_rfl))
 f165 := Tryz.func142.trans (congrArg some (by kernel_rfl))
 f166 := Tryz.func143.trans (congrArg some (by kernel_rfl))
 f169 := Tryz.func145.trans (congrArg some (by kernel_rfl))
 f170 := Tryz.func144.trans (congrArg some (by kernel_rfl))
 f206 := Tryz.func170.trans (congrArg some (by kernel_rfl))
 f212 := Tryz.func140.trans (congrArg some (by kernel_rfl))
 f240 := Tryz.func171.trans (congrArg some (by kernel_rfl))
 f241 := Tryz.func172.trans (congrArg some (by kernel_rfl))
 f263 := Tryz.func168.trans (congrArg some (by kernel_rfl))
 f264 := Tryz.func169.trans (congrArg some (by kernel_rfl))
 f276 := Tryz.func185.trans (congrArg some (by kernel_rfl))
 f277 := Tryz.func186.trans (congrArg some (by kernel_rfl))
 t0 := Tryz.underlying0
 a0 := Tryz.isAgg0
 z0 := Tryz.sizeOf0
 v0 := Tryz.zeroValue0
 t3 := Tryz.underlying3
 a3 := Tryz.isAgg3
 z3 := Tryz.sizeOf3
 v3 := Tryz.zeroValue3
 t4 := Tryz.underlying4
 a4 := Tryz.isAgg4
 z4 := Tryz.sizeOf4
 v4 := Tryz.zeroValue4
 t5 := Tryz.underlying5
 a5 := Tryz.isAgg5
 z5 := Tryz.sizeOf5
 v5 := Tryz.zeroValue5
 t9 := Tryz.underlying9
 a9 := Tryz.isAgg9
 z9 := Tryz.sizeOf9
 v9 := Tryz.zeroValue9
 t20 := Tryz.underlying20
 a20 := Tryz.isAgg20
 z20 := Tryz.sizeOf20
 v20 := Tryz.zeroValue20
 t37 := Tryz.underlying46
 a37 := Tryz.isAgg46
 z37 := Tryz.sizeOf46
 v37 := Tryz.zeroValue46
 t46 := Tryz.underlying49
 a46 := Tryz.isAgg49
 z46 := Tryz.sizeOf49
 v46 := Tryz.zeroValue49
 t51 := Tryz.underlying112
 a51 := Tryz.isAgg112
 z51 := Tryz.sizeOf112
 v51 := Tryz.zeroValue112
 t53 := Tryz.underlying115
 a53 := Tryz.isAgg115
 z53 := Tryz.sizeOf115
 v53 := Tryz.zeroValue115
 t70 := Tryz.underlying223
 a70 := Tryz.isAgg223
 z70 := Tryz.sizeOf223
 v70 := Tryz.zeroValue223
 t72 := Tryz.underlying225
 a72 := Tryz.isAgg225
 z72 := Tryz.sizeOf225
 v72 := Tryz.zeroValue225
 t75 := Tryz.underlying35
 a75 := Tryz.isAgg35
 z75 := Tryz.sizeOf35
 v75 := Tryz.zeroValue35
 t76 := Tryz.underlying227
 a76 := Tryz.isAgg227
 z76 := Tryz.sizeOf227
 v76 := Tryz.zeroValue227
 t109 := Tryz.underlying221
 a109 := Tryz.isAgg221
 z109 := Tryz.sizeOf221
 v109 := Tryz.zeroValue221
 t127 := Tryz.underlying252
 a127 := Tryz.isAgg252
 z127 := Tryz.sizeOf252
 v127 := Tryz.zeroValue252
 t146 := Tryz.underlying248
 a146 := Tryz.isAgg248
 z146 := Tryz.sizeOf248
 v146 := Tryz.zeroValue248
 t148 := Tryz.underlying250
 a148 := Tryz.isAgg250
 z148 := Tryz.sizeOf250
 v148 := Tryz.zeroValue250
 t164 := Tryz.underlying263
 a164 := Tryz.isAgg263
 z164 := Tryz.sizeOf263
 v164 := Tryz.zeroValue263 }
theorem Tryz.Builder_Extra_105 : Builder.Extra Tryz.prog Tryz.lays105_ren := {
 sizeBuilder := by kernel_rfl
 liesBuilder := by kernel_rfl
 t5 := Tryz.underlying5
 a5 := Tryz.isAgg5
 z5 := Tryz.sizeOf5
 v5 := Tryz.zeroValue5
 infoByte := by kernel_rfl
 cellsByte := by kernel_rfl
 sizeByte := by kernel_rfl
 neB5 := by decide }
open Go.RowKit Go.Lib in
theorem Tryz.strings_Repeat (s : ByteArray) (c : Nat) (w : World) (hc : c ≤ 9223372036854775807) (hlen : s.size * c ≤ 140737488355328) :
  Calls Tryz.prog 109 #[.string s, .int .i64 c] w fun e w' => e = .returned (.string ⟨(Lib.repeatL s.data.toList c).toArray⟩) ∧ Below w.heap.size w w' := Any.strings_Repeat Tryz.lays105 Tryz.Builder_Extra_105 s c w hc hlen
def Tryz.laysSlM6_f49_ren : Go.Shelf.Ren := ⟨fun | 6 => 49 | 8 => 65 | 9 => 64 | 19 => 95 | 20 => 96 | 21 => 86 | 22 => 87 | 23 => 88 | 24 => 89 | 25 => 90 | 26 => 91 | 27 => 92 | 28 => 93 | 29 => 94 | 36 => 116 | 31 => 117 | 32 => 118 | 37 => 119 | 38 => 120 | 39 => 121 | 41 => 147 | n => n, fun | 27 => 77 | 29 => 9 | 3 => 3 | 32 => 49 | 26 => 77 | 0 => 0 | 44 => 112 | 46 => 115 | 4 => 4 | 36 => 166 | 35 => 165 | 41 => 171 | 5 => 5 | 9 => 9 | 53 => 198 | 57 => 202 | 63 => 231 | 64 => 70 | n => n, fun | n => n⟩
theorem Tryz.laysSlM6_f49 : Go.Proofs.SlLaysM.n6 Tryz.prog Tryz.laysSlM6_f49_ren := {
 mixed := by kernel_rfl
 f6 := ⟨Tryz.f49.name, by decide, Tryz.func49.trans (congrArg some (by kernel_rfl))⟩
 f8 := Tryz.func65.trans (congrArg some (by kernel_rfl))
 f9 := ⟨Tryz.f64.name, by decide, Tryz.func64.trans (congrArg some (by kernel_rfl))⟩
 f19 := Tryz.func95.trans (congrArg some (by kernel_rfl))
 f20 := Tryz.func96.trans (congrArg some (by kernel_rfl))
 f21 := ⟨Tryz.f86.name, by decide, Tryz.func86.trans (congrArg some (by kernel_rfl))⟩
 f22 := ⟨Tryz.f87.name, by decide, Tryz.func87.trans (congrArg some (by kernel_rfl))⟩
 f23 := ⟨Tryz.f88.name, by decide, Tryz.func88.trans (congrArg some (by kernel_rfl))⟩
 f24 := ⟨Tryz.f89.name, by decide, Tryz.func89.trans (congrArg some (by kernel_rfl))⟩
 f25 := ⟨Tryz.f90.name, by decide, Tryz.func90.trans (congrArg some (by kernel_rfl))⟩
 f26 := ⟨Tryz.f91.name, by decide, Tryz.func91.trans (congrArg some (by kernel_rfl))⟩
 f27 := ⟨Tryz.f92.name, by decide, Tryz.func92.trans (congrArg some (by kernel_rfl))⟩
 f28 := ⟨Tryz.f93.name, by decide, Tryz.func93.trans (congrArg some (by kernel_rfl))⟩
 f29 := ⟨Tryz.f94.name, by decide, Tryz.func94.trans (congrArg some (by kernel_rfl))⟩
 f31 := Tryz.func117.trans (congrArg some (by kernel_rfl))
 f32 := Tryz.func118.trans (congrArg some (by kernel_rfl))
 f36 := ⟨Tryz.f116.name, by decide, Tryz.func116.trans (congrArg some (by kernel_rfl))⟩
 f37 := ⟨Tryz.f119.name, by decide, Tryz.func119.trans (congrArg some (by kernel_rfl))⟩
 f38 := ⟨Tryz.f120.name, by decide, Tryz.func120.trans (congrArg some (by kernel_rfl))⟩
 f39 := ⟨Tryz.f121.name, by decide, Tryz.func121.trans (congrArg some (by kernel_rfl))⟩
 f41 := ⟨Tryz.f147.name, by decide, Tryz.func147.trans (congrArg some (by kernel_rfl))⟩
 t0 := Tryz.underlying0
 a0 := Tryz.isAgg0
 z0 := Tryz.sizeOf0
 v0 := Tryz.zeroValue0
 t3 := Tryz.underlying3
 a3 := Tryz.isAgg3
 z3 := Tryz.sizeOf3
 v3 := Tryz.zeroValue3
 t4 := Tryz.underlying4
 a4 := Tryz.isAgg4
 z4 := Tryz.sizeOf4
 v4 := Tryz.zeroValue4
 t5 := Tryz.underlying5
 a5 := Tryz.isAgg5
 z5 := Tryz.sizeOf5
 v5 := Tryz.zeroValue5
 t9 := Tryz.underlying9
 a9 := Tryz.isAgg9
 z9 := Tryz.sizeOf9
 v9 := Tryz.zeroValue9
 t26 := Tryz.underlying77
 a26 := Tryz.isAgg77
 z26 := Tryz.sizeOf77
 v26 := Tryz.zeroValue77
 t27 := Tryz.underlying77
 a27 := Tryz.isAgg77
 z27 := Tryz.sizeOf77
 v27 := Tryz.zeroValue77
 t29 := Tryz.underlying9
 a29 := Tryz.isAgg9
 z29 := Tryz.sizeOf9
 v29 := Tryz.zeroValue9
 t32 := Tryz.underlying49
 a32 := Tryz.isAgg49
 z32 := Tryz.sizeOf49
 v32 := Tryz.zeroValue49
 t35 := Tryz.underlying165
 a35 := Tryz.isAgg165
 z35 := Tryz.sizeOf165
 v35 := Tryz.zeroValue165
 t36 := Tryz.underlying166
 a36 := Tryz.isAgg166
 z36 := Tryz.sizeOf166
 v36 := Tryz.zeroValue166
 t41 := Tryz.underlying171
 a41 := Tryz.isAgg171
 z41 := Tryz.sizeOf171
 v41 := Tryz.zeroValue171
 t44 := Tryz.underlying112
 a44 := Tryz.isAgg112
 z44 := Tryz.sizeOf112
 v44 := Tryz.zeroValue112
 t46 := Tryz.underlying115
 a46 := Tryz.isAgg115
 z46 := Tryz.sizeOf115
 v46 := Tryz.zeroValue115
 t53 := Tryz.underlying198
 a53 := Tryz.isAgg198
 z53 := Tryz.sizeOf198
 v53 := Tryz.zeroValue198
 t57 := Tryz.underlying202
 a57 := Tryz.isAgg202
 z57 := Tryz.sizeOf202
 v57 := Tryz.zeroValue202
 t63 := Tryz.underlying231
 a63 := Tryz.isAgg231
 z63 := Tryz.sizeOf231
 v63 := Tryz.zeroValue231
 t64 := Tryz.underlying70
 a64 := Tryz.isAgg70
 z64 := Tryz.sizeOf70
 v64 := Tryz.zeroValue70 }
open Go.Sort Go.RowKit in
theorem Tryz.slices_Sort_string (blk off cap : Nat) (ss : List (List UInt8)) (w : World) (hH : Holds encStr w blk off ss.toArray) (hblk : blk < w.heap.size) (hsz : ss.length < 4611686018427387904) :
  Calls Tryz.prog 49 #[.slice (some ⟨blk, off, none⟩) ss.length cap] w fun e w' =>
   e = .returned (.tuple #[]) ∧ ∃ n os, w' = grow (putRow encStr (Sort.ahead w n) blk off (ss.mergeSort fun x y => decide (x ≤ y)).toArray) os := AnyM.slices_Sort_string Tryz.laysSlM6_f49 blk off cap ss w hH hblk hsz
open Go.RowKit Go.Sort in
theorem Tryz.slices_Sort_string_none (p : Option Addr) (cap : Nat) (w : World) :
  Calls Tryz.prog 49 #[.slice p 0 cap] w fun e w' => e = .returned (.tuple #[]) ∧ w' = w := AnyM.slices_Sort_string_none Tryz.laysSlM6_f49 p cap w
end Go.Proofs
/- The walks of layer 3's Parts, Ref and Repo, and of the chapter's example. -/
namespace Go.Proofs.YtgcgomdhdgjpdaaGreatDoor
open Go Go.RowKit
theorem wrongPart_any (v : Value) (w : World) (g : Nat) (lb : Array Value) (hv : v = .func (.func g) #[] lb) :
  Calls Tryz.prog 133 #[v] w fun e w' => e = .returned (.func (.func 153) #[] #[.pointer (some ⟨w.heap.size, 0, none⟩)]) ∧ w.alloc (.cells #[v] 214) = w' := by
 subst hv
 go_enter Tryz.func133, Tryz.ntmps133
 go_wp2
 go_ret
 exact ⟨rfl, rfl⟩
theorem eg37 : ∀ args w, (callFunc 156 args).run Tryz.prog w = .ok (.enter 156 args) w := enters_of Tryz.func156 (by kernel_rfl) rfl
theorem eg48 : ∀ args w, (callFunc 176 args).run Tryz.prog w = .ok (.enter 176 args) w := enters_of Tryz.func176 (by kernel_rfl) rfl
theorem eg41 : ∀ args w, (callFunc 153 args).run Tryz.prog w = .ok (.enter 153 args) w := enters_of Tryz.func153 (by kernel_rfl) rfl
abbrev dotS : ByteArray := ⟨#[46]⟩
theorem wrongPart1_any (s : ByteArray) (hs : s.size ≤ maxLen) (B g : Nat) (lb : Array Value) (p : UInt8 → Bool) (eg : ∀ args w, (callFunc g args).run Tryz.prog w = .ok (.enter g args) w) (w : World)
  (hc : w.cell? ⟨B, 0, none⟩ = some (.func (.func g) #[] lb)) (hp : Tells g lb p w) :
  Calls Tryz.prog 153 #[.string s, .pointer (some ⟨B, 0, none⟩)] w fun e w' => e = .returned (.bool (!(Nm.allL p s.data.toList) || Nm.allL (Nm.among [46]) s.data.toList)) ∧ Below w.heap.size w w' := by
 have C1 := all_any s g lb p eg w hs hp
 cases ha : Nm.allL p s.data.toList
 ·rw [ha] at C1
  clear ha
  go_enter Tryz.func153, Tryz.ntmps153
  go_wp2_with (go_at_call 154; refine C1.mono ?_; rintro e w' ⟨rfl, rfl⟩)
  go_ret
  exact ⟨ret_bool rfl, Below.refl _ _⟩
 ·rw [ha] at C1
  clear ha
  have T2 := oneOf_tells dotS w.heap.size (w.alloc (.cells #[.string dotS] 9)) (by simp) (by simp)
  have C2 := all_any s 176 _ _ eg48 (w.alloc (.cells #[.string dotS] 9)) hs T2
  clear T2
  rw [show Nm.among dotS.data.toList = Nm.among [46] from rfl] at C2
  generalize Nm.allL (Nm.among [46]) s.data.toList = r at C2 ⊢
  go_enter Tryz.func153, Tryz.ntmps153
  go_wp2_with (first
   | (go_at_call 154; refine C1.mono ?_; rintro e w' ⟨rfl, rfl⟩; clear C1)
   | (go_at_call 155; refine (oneOf_any dotS _).mono ?_; rintro e w' ⟨rfl, rfl⟩)
   | (go_at_call 154; refine C2.mono ?_; rintro e w' ⟨rfl, rfl⟩))
  go_ret
  exact ⟨ret_bool rfl, (Below.refl _ _).alloc (Nat.le_refl _) _⟩
def TellsText (g : Nat) (lb : Array Value) (p : ByteArray → Bool) (w : World) : Prop :=
 ∀ (W : World) (x : ByteArray), x.size ≤ maxLen → Below w.heap.size w W → Calls Tryz.prog g (#[.string x] ++ lb) W fun e w' => e = .returned (.bool (p x)) ∧ Below W.heap.size W w'
def Found (r : Bool) (w : World) (e : Ending) (w' : World) : Prop := ∃ i : Int, e = .returned (.int .i64 i) ∧ decide (0 ≤ i) = r ∧ Below w.heap.size w w'
def Row (w : World) (b off : Nat) (zs : List ByteArray) : Prop := b < w.heap.size ∧ ∀ j x, zs[j]? = some x → w.cell? ⟨b, off + j, none⟩ = some (.string x)
theorem Row.below {w w' : World} {b off : Nat} {zs : List ByteArray} (h : Row w b off zs) (hb : Below w.heap.size w w') : Row w' b off zs :=
 ⟨Nat.lt_of_lt_of_le h.1 hb.size, fun j x hx => (hb.cell (p := ⟨b, off + j, none⟩) h.1).trans (h.2 j x hx)⟩
theorem any_none {zs : List ByteArray} {p : ByteArray → Bool} {k : Nat} (h : ∀ j x, j < k → zs[j]? = some x → p x = false) (hk : zs.length ≤ k) : zs.any p = false := by
 rw [List.any_eq_false]
 intro x hx
 obtain ⟨j, hj⟩ := List.mem_iff_getElem?.1 hx
 rw [h j x (by have := (List.getElem?_eq_some_iff.1 hj).1; omega) hj]; simp
theorem any_at {zs : List ByteArray} {p : ByteArray → Bool} {k : Nat} {x : ByteArray} (h : zs[k]? = some x) (hp : p x = true) : zs.any p = true :=
 List.any_eq_true.2 ⟨x, List.mem_iff_getElem?.2 ⟨k, h⟩, hp⟩
def NoneYet (zs : List ByteArray) (p : ByteArray → Bool) (k : Nat) : Prop := ∀ j x, j < k → zs[j]? = some x → p x = false
set_option maxHeartbeats 400000 in
theorem indexFunc_any (g : Nat) (lb : Array Value) (p : ByteArray → Bool) (eg : ∀ args w, (callFunc g args).run Tryz.prog w = .ok (.enter g args) w) (b off c : Nat) (zs : List ByteArray) (w : World)
  (hp : TellsText g lb p w) (hbig : zs.length ≤ 9223372036854775807) (hz : ∀ x ∈ zs, x.size ≤ maxLen) (hr : Row w b off zs) :
  Calls Tryz.prog 152 #[.slice (some ⟨b, off, none⟩) zs.length c, .func (.func g) #[] lb] w (Found (zs.any p) w) := by
 have HZ := Lib.hid hz
 clear hz
 go_enter Tryz.func152, Tryz.ntmps152
 go_wp2
 go_loopw [8] (fun i wr => ∃ k : Nat, k ≤ zs.length ∧ i = .int .i64 k ∧ Hid (NoneYet zs p k) ∧ Hid (Below w.heap.size w wr)) (fun i _ => zs.length - (intOf i).toNat)
 case atStart => exact ⟨0, Nat.zero_le _, rfl, Lib.hid (fun j x hj => absurd hj (Nat.not_lt_zero _)), Lib.hid (Below.refl _ _)⟩
 case round =>
  obtain ⟨k, hk, rfl, HN, HB⟩ := hrel
  by_cases hlt : k < zs.length
  ·have hx : zs[k]? = some zs[k] := by simp [hlt]
   have hcell := (hr.below HB.out).2 k _ hx
   have hsz := HZ.out zs[k] (List.getElem_mem hlt)
   have C := hp wr zs[k] hsz HB.out
   have HX := Lib.hid hx
   generalize zs[k] = x at hcell C HX hsz
   clear hx
   cases hv : p x
   ·have H := Lib.hid (show NoneYet zs p (k + 1) from fun j y hj hy => by
     rcases Nat.lt_succ_iff_lt_or_eq.1 hj with h | rfl
     ·exact HN.out j y h hy
     ·rw [HX.out] at hy; obtain rfl := Option.some.inj hy; exact hv)
    rw [hv] at C
    clear hv
    go_wp2_with (go_at_fn g; refine C.mono ?_; rintro e w' ⟨rfl, hb⟩; have HB2 := Lib.hid (HB.out.trans (hb.mono HB.out.size)); clear hb)
    go_roundw
    case rel => exact ⟨k + 1, by omega, by go_num, H, HB2⟩
    case measure => simp [intOf]; omega
   ·have H := Lib.hid (any_at HX.out hv)
    rw [hv] at C
    clear hv
    go_wp2_with (go_at_fn g; refine C.mono ?_; rintro e w' ⟨rfl, hb⟩; have HB2 := Lib.hid (HB.out.trans (hb.mono HB.out.size)); clear hb)
    go_ret
    exact ⟨k, rfl, by rw [H.out]; simp, HB2.out⟩
  ·have H := Lib.hid (any_none HN.out (by omega))
   go_wp2
   go_ret
   exact ⟨-1, rfl, by rw [H.out]; rfl, HB.out⟩
theorem containsFunc_any (g : Nat) (lb : Array Value) (p : ByteArray → Bool) (eg : ∀ args w, (callFunc g args).run Tryz.prog w = .ok (.enter g args) w) (b off c : Nat) (zs : List ByteArray) (w : World)
  (hp : TellsText g lb p w) (hbig : zs.length ≤ 9223372036854775807) (hz : ∀ x ∈ zs, x.size ≤ maxLen) (hr : Row w b off zs) (r : Bool) (hres : zs.any p = r) :
  Calls Tryz.prog 132 #[.slice (some ⟨b, off, none⟩) zs.length c, .func (.func g) #[] lb] w fun e w' => e = .returned (.bool r) ∧ Below w.heap.size w w' := by
 have C := indexFunc_any g lb p eg b off c zs w hp hbig hz hr
 rw [hres] at C
 clear hz hres
 go_enter Tryz.func132, Tryz.ntmps132
 go_wp2_with (go_at_call 152; refine C.mono ?_; rintro e w' ⟨i, rfl, hi, hb⟩; have HI := Lib.hid hi; clear hi; have HB := Lib.hid hb; clear hb)
 go_ret
 exact ⟨ret_bool HI.out, HB.out⟩
def MaxAt (w : World) : Prop := 24 < w.heap.size ∧ ∃ m : Int, w.cell? ⟨24, 0, none⟩ = some (.int .i64 m)
theorem MaxAt.below {B : Nat} {w w' : World} (h : MaxAt w) (hb : Below B w w') (hB : w.heap.size ≤ B) : MaxAt w' :=
 ⟨Nat.lt_of_lt_of_le h.1 hb.size, h.2.elim fun m hm => ⟨m, (hb.cell (p := ⟨24, 0, none⟩) (Nat.lt_of_lt_of_le h.1 hB)).trans hm⟩⟩
abbrev slashS : ByteArray := ⟨#[47]⟩
theorem parts_any (s : ByteArray) (w : World) (hm : MaxAt w) (hs : s.size < 4294967281) :
  Calls Tryz.prog 131 #[.string s] w fun e w' => e = .returned (.slice (some ⟨w.heap.size, 0, none⟩) (Nm.cut s).length (Nm.cut s).length) ∧ w.alloc (.cells ((Nm.cut s).map Value.string).toArray 9) = w' := by
 obtain ⟨_, m, hm⟩ := hm
 have C := Tryz.strings_Split s slashS m w hs hm (by decide)
 rw [show Lib.splitB slashS 0 (Lib.countB s slashS) s = Nm.cut s from rfl, show Lib.countB s slashS + 1 = (Nm.cut s).length from (Nm.cut_len s).symm] at C
 generalize Nm.cut s = l at C ⊢
 clear hm hs
 go_enter Tryz.func131, Tryz.ntmps131
 go_wp2_with (go_at_call 151; refine C.mono ?_; rintro e w' ⟨rfl, rfl⟩)
 go_ret
 exact ⟨rfl, rfl⟩
theorem row_new (w : World) (zs : List ByteArray) (t : TypeId) : Row (w.alloc (.cells (zs.map Value.string).toArray t)) w.heap.size 0 zs :=
 ⟨by simp, fun j x hx => by rw [(Blk.new w t _).cell]; simp [hx]⟩
theorem ref_long {s : ByteArray} (h : ¬ s.size ≤ 24) : Nm.ref s.data.toList = false := by
 have e : s.data.toList.length = s.size := by simp
 unfold Nm.ref; rw [e, decide_eq_false h]; rfl
theorem ref_few {s : ByteArray} (h : ¬ 2 ≤ (Nm.cut s).length) : Nm.ref s.data.toList = false := by
 have e : (Nm.parts s.data.toList).length = (Nm.cut s).length := by rw [Nm.parts_len, Nm.cut_len]
 unfold Nm.ref; rw [e, decide_eq_false h, Bool.and_false]; rfl
theorem ref_else {s : ByteArray} (h1 : s.size ≤ 24) (h2 : 2 ≤ (Nm.cut s).length) : Nm.ref s.data.toList = !((Nm.cut s).any fun x => Nm.bad x.data.toList) := by
 have e1 : s.data.toList.length = s.size := by simp
 have e2 : (Nm.parts s.data.toList).length = (Nm.cut s).length := by rw [Nm.parts_len, Nm.cut_len]
 unfold Nm.ref; rw [e1, e2, decide_eq_true h1, decide_eq_true h2, Nm.any_cut]; rfl
abbrev hyphDotS : ByteArray := ⟨#[45, 46]⟩
theorem wrong_tells (w : World) (B3 B2 B1 : Nat) (h3 : B3 < w.heap.size) (h2 : B2 < w.heap.size) (h1 : B1 < w.heap.size) (c3 : w.cell? ⟨B3, 0, none⟩ = some (.func (.func 156) #[] #[.pointer (some ⟨B2, 0, none⟩)]))
  (c2 : w.cell? ⟨B2, 0, none⟩ = some (.func (.func 176) #[] #[.pointer (some ⟨B1, 0, none⟩)])) (c1 : w.cell? ⟨B1, 0, none⟩ = some (.string hyphDotS)) :
  TellsText 153 #[.pointer (some ⟨B3, 0, none⟩)] (fun x => Nm.bad x.data.toList) w := fun W x hx hb => by
 have k3 := (hb.cell (p := ⟨B3, 0, none⟩) h3).trans c3
 have k2 := (hb.cell (p := ⟨B2, 0, none⟩) h2).trans c2
 have k1 := (hb.cell (p := ⟨B1, 0, none⟩) h1).trans c1
 have hz := hb.size
 exact wrongPart1_any x hx B3 156 _ _ eg37 W k3 (plainOr_tells hyphDotS B2 B1 W (by omega) (by omega) k2 k1)
set_option maxHeartbeats 400000 in
theorem ref_any (s : ByteArray) (w : World) (hm : MaxAt w) :
  Calls Tryz.prog 102 #[.string s] w fun e w' => e = .returned (.bool (Nm.ref s.data.toList)) ∧ Below w.heap.size w w' := by
 by_cases hs : s.size ≤ 24
 ·have CP := parts_any s w hm (by omega)
  have HZ := Lib.hid (Nm.cut_size s)
  have hs' : 0 ≤ s.size := Nat.zero_le _
  by_cases h2 : 2 ≤ (Nm.cut s).length
  ·have HR := Lib.hid (ref_else hs h2)
   have hR : Row (w.alloc (.cells ((Nm.cut s).map Value.string).toArray 9)) w.heap.size 0 (Nm.cut s) := row_new _ _ _
   have hl : (Nm.cut s).length ≤ 9223372036854775807 := by
    have := Lib.countB_le slashS (Nat.le_refl _) _ s (Nat.le_refl _)
    rw [Nm.cut_len]; show Lib.countB s slashS + 1 ≤ _; omega
   have hB0 : Below w.heap.size w (w.alloc (.cells ((Nm.cut s).map Value.string).toArray 9)) := (Below.refl _ _).alloc (Nat.le_refl _) _
   have HB0 := Lib.hid hB0
   clear hB0
   have HRow := Lib.hid hR
   clear hR
   generalize Nm.cut s = l at *
   generalize hr : (l.any fun x => Nm.bad x.data.toList) = r at HR
   have HRes := Lib.hid hr
   clear hr
   go_enter Tryz.func102, Tryz.ntmps102
   go_wp2_with fail
   refine CP.mono ?_
   rintro e w1 ⟨rfl, hw1⟩
   rw [hw1] at HB0 HRow
   clear hw1 CP
   go_wp2_with fail
   refine (plainOr_any hyphDotS _).mono ?_
   rintro e w2 ⟨rfl, rfl⟩
   go_wp2_with fail
   refine (wrongPart_any _ _ _ _ rfl).mono ?_
   rintro e w3 ⟨rfl, rfl⟩
   go_wp2_with fail
   have hT := wrong_tells (((w1.alloc (.cells #[.string hyphDotS] 9)).alloc (.cells #[.func (.func 176) #[] #[.pointer (some ⟨w1.heap.size, 0, none⟩)]] 214)).alloc (.cells #[.func (.func 156) #[] #[.pointer (some ⟨w1.heap.size + 1, 0, none⟩)]] 214)) (w1.heap.size + 1 + 1) (w1.heap.size + 1) w1.heap.size
    (by simp) (by simp <;> omega) (by simp <;> omega) ?k1 ?k2 ?k3
   case k1 => have h := (Blk.new ((w1.alloc (.cells #[.string hyphDotS] 9)).alloc (.cells #[.func (.func 176) #[] #[.pointer (some ⟨w1.heap.size, 0, none⟩)]] 214)) 214 #[.func (.func 156) #[] #[.pointer (some ⟨w1.heap.size + 1, 0, none⟩)]]).cell 0; simpa using h
   case k2 => have h := ((Blk.new (w1.alloc (.cells #[.string hyphDotS] 9)) 214 #[.func (.func 176) #[] #[.pointer (some ⟨w1.heap.size, 0, none⟩)]]).alloc (.cells #[.func (.func 156) #[] #[.pointer (some ⟨w1.heap.size + 1, 0, none⟩)]] 214)).cell 0; simpa using h
   case k3 => have h := (((Blk.new w1 9 #[.string hyphDotS]).alloc (.cells #[.func (.func 176) #[] #[.pointer (some ⟨w1.heap.size, 0, none⟩)]] 214)).alloc (.cells #[.func (.func 156) #[] #[.pointer (some ⟨w1.heap.size + 1, 0, none⟩)]] 214)).cell 0; simpa using h
   have hB3 : Below w1.heap.size w1 (((w1.alloc (.cells #[.string hyphDotS] 9)).alloc (.cells #[.func (.func 176) #[] #[.pointer (some ⟨w1.heap.size, 0, none⟩)]] 214)).alloc (.cells #[.func (.func 156) #[] #[.pointer (some ⟨w1.heap.size + 1, 0, none⟩)]] 214)) := by
    refine ((((Below.refl _ _).alloc (Nat.le_refl _) _).alloc ?_ _).alloc ?_ _) <;> simp <;> omega
   generalize ((w1.alloc (.cells #[.string hyphDotS] 9)).alloc (.cells #[.func (.func 176) #[] #[.pointer (some ⟨w1.heap.size, 0, none⟩)]] 214)).alloc (.cells #[.func (.func 156) #[] #[.pointer (some ⟨w1.heap.size + 1, 0, none⟩)]] 214) = w4 at hT hB3 ⊢
   have HB3 := Lib.hid hB3
   clear hB3
   refine (containsFunc_any _ _ _ eg41 w.heap.size 0 l.length l w4 hT hl (fun x hx => by have := HZ.out x hx; unfold maxLen; omega) (HRow.out.below HB3.out) r HRes.out).mono ?_
   rintro e w5 ⟨rfl, hb5⟩
   have HB5 := Lib.hid (HB0.out.trans ((HB3.out.trans (hb5.mono HB3.out.size)).mono HB0.out.size))
   clear hb5 hT
   go_wp2_with fail
   go_ret
   exact ⟨ret_bool HR.out.symm, HB5.out⟩
  ·have HR := Lib.hid (ref_few h2)
   clear HZ
   generalize Nm.cut s = l at *
   go_enter Tryz.func102, Tryz.ntmps102
   go_wp2_with (go_at_call 131; refine CP.mono ?_; rintro e w1 ⟨rfl, rfl⟩)
   go_ret
   exact ⟨ret_bool HR.out.symm, (Below.refl _ _).alloc (Nat.le_refl _) _⟩
 ·have HR := Lib.hid (ref_long hs)
  go_enter Tryz.func102, Tryz.ntmps102
  go_wp2
  go_ret
  exact ⟨ret_bool HR.out.symm, Below.refl _ _⟩
end Go.Proofs.YtgcgomdhdgjpdaaGreatDoor
