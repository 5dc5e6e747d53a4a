/- Texts put together: S, RO, JB, PA, PO, PQ, PR, PU, TA, FL, OC. -/
import Derived.Shelf.Strings.Builder1
import Derived.Shelf.Strings.Builder2
import Derived.Shelf.Strings.OnBuilder
import Derived.Shelf.Strings.Trim
import Derived.Shelf.Small.Utf8
import Derived.Shelf.Small.Strs
import Derived.Shelf.Strings.BuilderF
import Derived.Shelf.Strings.BuilderK
import Derived.Shelf.Strings.Builder2Cap
import Derived.Shelf.Strings.Search1
import Derived.Shelf.Strings.Search2
import Derived.Shelf.Strings.Search3
import Derived.Shelf.Strings.Cut
import Derived.Shelf.Strings.Count
import Derived.Shelf.LaysM
import Derived.Shelf.Strings.Shaped
import Derived.Shelf.Strings.Prefix
import Derived.Shelf.Strings.Split
import Derived.Shelf.Strings.SplitShaped
import Derived.Shelf.Strings.Runes
import Derived.Shelf.Strings.AsciiSet
import Derived.Shelf.Unicode.DecodeSlow
import Derived.Test.YtfjklpgmnakcaaaGreatDoorProg
import Derived.OwnWalk
import Derived.Laws.AppendOwn
import Derived.Laws.OwnMore
import Derived.Lib.SmallJoins
import Derived.Deep.RegionLaw
import Derived.RegionTactic
import Derived.Test.YtfjklpgmnakcaaaGreatDoorBae1
set_option linter.unusedVariables false
set_option maxRecDepth 100000
set_option maxHeartbeats 16000000
namespace Go.Proofs
open Go.Shelf
def Tryz.lays169_ren : Go.Shelf.Ren := ⟨fun | 169 => 144 | n => n, fun | 70 => 235 | 9 => 9 | 0 => 0 | 72 => 238 | 37 => 236 | 127 => 247 | 3 => 3 | 5 => 5 | n => n, fun | n => n⟩
theorem Tryz.lays169 : Go.Proofs.Lays.n169 Tryz.prog Tryz.lays169_ren := {
  mixed := by kernel_rfl
  f169 := Tryz.func144.trans (congrArg some (by kernel_rfl))
  t0 := Tryz.underlying0
  a0 := Tryz.isAgg0
  z0 := Tryz.sizeOf0
  v0 := Tryz.zeroValue0
  t3 := Tryz.underlying3
  a3 := Tryz.isAgg3
  z3 := Tryz.sizeOf3
  v3 := Tryz.zeroValue3
  t9 := Tryz.underlying9
  a9 := Tryz.isAgg9
  z9 := Tryz.sizeOf9
  v9 := Tryz.zeroValue9
  t37 := Tryz.underlying236
  a37 := Tryz.isAgg236
  z37 := Tryz.sizeOf236
  v37 := Tryz.zeroValue236
  t70 := Tryz.underlying235
  a70 := Tryz.isAgg235
  z70 := Tryz.sizeOf235
  v70 := Tryz.zeroValue235
  t72 := Tryz.underlying238
  a72 := Tryz.isAgg238
  z72 := Tryz.sizeOf238
  v72 := Tryz.zeroValue238
  t127 := Tryz.underlying247
  a127 := Tryz.isAgg247
  z127 := Tryz.sizeOf247
  v127 := Tryz.zeroValue247 }
theorem Tryz.Builder_Extra_169 : Builder.Extra Tryz.prog Tryz.lays169_ren := {
  sizeBuilder := by kernel_rfl
  liesBuilder := by kernel_rfl
  t5 := Tryz.underlying5
  a5 := Tryz.isAgg5
  z5 := Tryz.sizeOf5
  v5 := Tryz.zeroValue5
  infoByte := by kernel_rfl
  cellsByte := by kernel_rfl
  sizeByte := by kernel_rfl
  neB5 := by decide }
def Tryz.lays156_ren : Go.Shelf.Ren := ⟨fun | 156 => 132 | 165 => 142 | 166 => 143 | 169 => 144 | 240 => 154 | 241 => 155 | 276 => 163 | 277 => 164 | n => n, fun | 31 => 130 | 9 => 9 | 3 => 3 | 4 => 4 | 0 => 0 | 20 => 20 | 72 => 238 | 76 => 107 | 70 => 235 | 37 => 236 | 75 => 32 | 127 => 247 | 164 => 181 | 5 => 5 | 80 => 240 | n => n, fun | n => n⟩
theorem Tryz.lays156 : Go.Proofs.Lays.n156 Tryz.prog Tryz.lays156_ren := {
  mixed := by kernel_rfl
  f156 := Tryz.func132.trans (congrArg some (by kernel_rfl))
  f165 := Tryz.func142.trans (congrArg some (by kernel_rfl))
  f166 := Tryz.func143.trans (congrArg some (by kernel_rfl))
  f169 := Tryz.func144.trans (congrArg some (by kernel_rfl))
  f240 := Tryz.func154.trans (congrArg some (by kernel_rfl))
  f241 := Tryz.func155.trans (congrArg some (by kernel_rfl))
  f276 := Tryz.func163.trans (congrArg some (by kernel_rfl))
  f277 := Tryz.func164.trans (congrArg some (by kernel_rfl))
  t0 := Tryz.underlying0
  a0 := Tryz.isAgg0
  z0 := Tryz.sizeOf0
  v0 := Tryz.zeroValue0
  t3 := Tryz.underlying3
  a3 := Tryz.isAgg3
  z3 := Tryz.sizeOf3
  v3 := Tryz.zeroValue3
  t4 := Tryz.underlying4
  a4 := Tryz.isAgg4
  z4 := Tryz.sizeOf4
  v4 := Tryz.zeroValue4
  t9 := Tryz.underlying9
  a9 := Tryz.isAgg9
  z9 := Tryz.sizeOf9
  v9 := Tryz.zeroValue9
  t20 := Tryz.underlying20
  a20 := Tryz.isAgg20
  z20 := Tryz.sizeOf20
  v20 := Tryz.zeroValue20
  t31 := Tryz.underlying130
  a31 := Tryz.isAgg130
  z31 := Tryz.sizeOf130
  v31 := Tryz.zeroValue130
  t37 := Tryz.underlying236
  a37 := Tryz.isAgg236
  z37 := Tryz.sizeOf236
  v37 := Tryz.zeroValue236
  t70 := Tryz.underlying235
  a70 := Tryz.isAgg235
  z70 := Tryz.sizeOf235
  v70 := Tryz.zeroValue235
  t72 := Tryz.underlying238
  a72 := Tryz.isAgg238
  z72 := Tryz.sizeOf238
  v72 := Tryz.zeroValue238
  t75 := Tryz.underlying32
  a75 := Tryz.isAgg32
  z75 := Tryz.sizeOf32
  v75 := Tryz.zeroValue32
  t76 := Tryz.underlying107
  a76 := Tryz.isAgg107
  z76 := Tryz.sizeOf107
  v76 := Tryz.zeroValue107
  t127 := Tryz.underlying247
  a127 := Tryz.isAgg247
  z127 := Tryz.sizeOf247
  v127 := Tryz.zeroValue247
  t164 := Tryz.underlying181
  a164 := Tryz.isAgg181
  z164 := Tryz.sizeOf181
  v164 := Tryz.zeroValue181 }
theorem Tryz.Builder_Extra_156 : Builder.Extra Tryz.prog Tryz.lays156_ren := {
  sizeBuilder := by kernel_rfl
  liesBuilder := by kernel_rfl
  t5 := Tryz.underlying5
  a5 := Tryz.isAgg5
  z5 := Tryz.sizeOf5
  v5 := Tryz.zeroValue5
  infoByte := by kernel_rfl
  cellsByte := by kernel_rfl
  sizeByte := by kernel_rfl
  neB5 := by decide }
open Go.RowKit in
theorem Tryz.strings_Join (bk o c : Nat) (xs : List ByteArray) (sep : ByteArray) (w : World) (hcells : ∀ (j : Nat) x, xs[j]? = some x -> w.cell? ⟨bk, o + j, none⟩ = some (.string x)) (hbk : bk < w.heap.size) (hN : xs.length <= 140737488355328) (hcap : xs.length <= c) (hlen : (Lib.join (xs.map (·.data.toList)) sep.data.toList).length <= 140737488355328) :
    Calls Tryz.prog 132 #[.slice (some ⟨bk, o, none⟩) xs.length c, .string sep] w fun e w' => e = .returned (.string ⟨(Lib.join (xs.map (·.data.toList)) sep.data.toList).toArray⟩) /\ Below w.heap.size w w' := Any.strings_Join Tryz.lays156 Tryz.Builder_Extra_156 bk o c xs sep w hcells hbk hN hcap hlen
def Tryz.lays160_ren : Go.Shelf.Ren := ⟨fun | 160 => 105 | 232 => 123 | 231 => 122 | 227 => 124 | 234 => 126 | 233 => 125 | 236 => 128 | 235 => 127 | 228 => 137 | 271 => 140 | 151 => 139 | 197 => 138 | 120 => 153 | 152 => 152 | 260 => 151 | 137 => 161 | 119 => 162 | 224 => 149 | 225 => 148 | 217 => 147 | 266 => 159 | n => n, fun | 9 => 9 | 4 => 4 | 3 => 3 | 5 => 5 | 117 => 226 | 116 => 225 | 0 => 0 | 124 => 229 | 21 => 21 | 105 => 232 | 46 => 245 | 119 => 253 | 139 => 256 | 138 => 255 | n => n, fun | 3 => 2 | 4 => 3 | n => n⟩
theorem Tryz.lays160 : Go.Proofs.Lays.n160 Tryz.prog Tryz.lays160_ren := {
  mixed := by kernel_rfl
  f119 := Tryz.func162.trans (congrArg some (by kernel_rfl))
  f120 := Tryz.func153.trans (congrArg some (by kernel_rfl))
  f137 := Tryz.func161.trans (congrArg some (by kernel_rfl))
  f151 := Tryz.func139.trans (congrArg some (by kernel_rfl))
  f152 := Tryz.func152.trans (congrArg some (by kernel_rfl))
  f160 := Tryz.func105.trans (congrArg some (by kernel_rfl))
  f197 := Tryz.func138.trans (congrArg some (by kernel_rfl))
  f217 := Tryz.func147.trans (congrArg some (by kernel_rfl))
  f224 := Tryz.func149.trans (congrArg some (by kernel_rfl))
  f225 := Tryz.func148.trans (congrArg some (by kernel_rfl))
  f227 := Tryz.func124.trans (congrArg some (by kernel_rfl))
  f228 := Tryz.func137.trans (congrArg some (by kernel_rfl))
  f231 := Tryz.func122.trans (congrArg some (by kernel_rfl))
  f232 := Tryz.func123.trans (congrArg some (by kernel_rfl))
  f233 := Tryz.func125.trans (congrArg some (by kernel_rfl))
  f234 := Tryz.func126.trans (congrArg some (by kernel_rfl))
  f235 := Tryz.func127.trans (congrArg some (by kernel_rfl))
  f236 := Tryz.func128.trans (congrArg some (by kernel_rfl))
  f260 := Tryz.func151.trans (congrArg some (by kernel_rfl))
  f266 := Tryz.func159.trans (congrArg some (by kernel_rfl))
  f271 := Tryz.func140.trans (congrArg some (by kernel_rfl))
  t0 := Tryz.underlying0
  a0 := Tryz.isAgg0
  z0 := Tryz.sizeOf0
  v0 := Tryz.zeroValue0
  t3 := Tryz.underlying3
  a3 := Tryz.isAgg3
  z3 := Tryz.sizeOf3
  v3 := Tryz.zeroValue3
  t4 := Tryz.underlying4
  a4 := Tryz.isAgg4
  z4 := Tryz.sizeOf4
  v4 := Tryz.zeroValue4
  t5 := Tryz.underlying5
  a5 := Tryz.isAgg5
  z5 := Tryz.sizeOf5
  v5 := Tryz.zeroValue5
  t9 := Tryz.underlying9
  a9 := Tryz.isAgg9
  z9 := Tryz.sizeOf9
  v9 := Tryz.zeroValue9
  t21 := Tryz.underlying21
  a21 := Tryz.isAgg21
  z21 := Tryz.sizeOf21
  v21 := Tryz.zeroValue21
  t46 := Tryz.underlying245
  a46 := Tryz.isAgg245
  z46 := Tryz.sizeOf245
  v46 := Tryz.zeroValue245
  t105 := Tryz.underlying232
  a105 := Tryz.isAgg232
  z105 := Tryz.sizeOf232
  v105 := Tryz.zeroValue232
  t116 := Tryz.underlying225
  a116 := Tryz.isAgg225
  z116 := Tryz.sizeOf225
  t117 := Tryz.underlying226
  a117 := Tryz.isAgg226
  z117 := Tryz.sizeOf226
  v117 := Tryz.zeroValue226
  t119 := Tryz.underlying253
  a119 := Tryz.isAgg253
  z119 := Tryz.sizeOf253
  t124 := Tryz.underlying229
  a124 := Tryz.isAgg229
  z124 := Tryz.sizeOf229
  v124 := Tryz.zeroValue229
  t138 := Tryz.underlying255
  a138 := Tryz.isAgg255
  z138 := Tryz.sizeOf255
  v138 := Tryz.zeroValue255
  t139 := Tryz.underlying256
  a139 := Tryz.isAgg256
  z139 := Tryz.sizeOf256
  v139 := Tryz.zeroValue256
  g3 := by kernel_rfl
  g4 := by kernel_rfl }
open Go.RowKit in
theorem Tryz.Builder_String_any_k (B b : Nat) (l : List UInt8) (w : World) (h : Lib.IsBuilderF 238 5 B b (Lib.byteCells l) w) (hBw : B <= w.heap.size) :
    Calls Tryz.prog 144 #[.pointer (some ⟨b, 0, none⟩)] w fun e w' => e = .returned (.string ⟨l.toArray⟩) /\ (Lib.IsBuilderF 238 5 B b (Lib.byteCells l) w' /\ Below B w w' /\ Lib.OthersKept 5 (some b) w w') := Any.Builder_String_any_k Tryz.lays169 Tryz.Builder_Extra_169 B b l w h hBw
def Tryz.lays219_ren : Go.Shelf.Ren := ⟨fun | 219 => 136 | 217 => 147 | 225 => 148 | 224 => 149 | 267 => 150 | 266 => 159 | 314 => 160 | n => n, fun | 9 => 9 | 3 => 3 | 4 => 4 | 5 => 5 | 46 => 245 | 146 => 251 | 51 => 250 | n => n, fun | 1 => 1 | n => n⟩
theorem Tryz.lays219 : Go.Proofs.Lays.n219 Tryz.prog Tryz.lays219_ren := {
  mixed := by kernel_rfl
  f217 := Tryz.func147.trans (congrArg some (by kernel_rfl))
  f219 := Tryz.func136.trans (congrArg some (by kernel_rfl))
  f224 := Tryz.func149.trans (congrArg some (by kernel_rfl))
  f225 := Tryz.func148.trans (congrArg some (by kernel_rfl))
  f266 := Tryz.func159.trans (congrArg some (by kernel_rfl))
  f267 := Tryz.func150.trans (congrArg some (by kernel_rfl))
  f314 := Tryz.func160.trans (congrArg some (by kernel_rfl))
  t3 := Tryz.underlying3
  a3 := Tryz.isAgg3
  z3 := Tryz.sizeOf3
  v3 := Tryz.zeroValue3
  t4 := Tryz.underlying4
  a4 := Tryz.isAgg4
  z4 := Tryz.sizeOf4
  v4 := Tryz.zeroValue4
  t5 := Tryz.underlying5
  a5 := Tryz.isAgg5
  z5 := Tryz.sizeOf5
  v5 := Tryz.zeroValue5
  t9 := Tryz.underlying9
  a9 := Tryz.isAgg9
  z9 := Tryz.sizeOf9
  v9 := Tryz.zeroValue9
  t46 := Tryz.underlying245
  a46 := Tryz.isAgg245
  z46 := Tryz.sizeOf245
  v46 := Tryz.zeroValue245
  t51 := Tryz.underlying250
  a51 := Tryz.isAgg250
  z51 := Tryz.sizeOf250
  v51 := Tryz.zeroValue250
  t146 := Tryz.underlying251
  a146 := Tryz.isAgg251
  z146 := Tryz.sizeOf251
  v146 := Tryz.zeroValue251
  g1 := by kernel_rfl }
open Go.RowKit Go.Lib in
theorem Tryz.stringslite_Index_one (s : ByteArray) (c : UInt8) (w : World) :
    Calls Tryz.prog 136 #[.string s, .string ⟨#[c]⟩] w fun e w' => e = .returned (.int .i64 (Lib.indexByte s.data.toList c)) /\ w' = w := Any.stringslite_Index_one Tryz.lays219 s c w
def Tryz.lays143_ren : Go.Shelf.Ren := ⟨fun | 143 => 121 | 219 => 136 | 217 => 147 | 225 => 148 | 224 => 149 | 267 => 150 | 266 => 159 | 314 => 160 | n => n, fun | 9 => 9 | 3 => 3 | 4 => 4 | 5 => 5 | 46 => 245 | 146 => 251 | 51 => 250 | n => n, fun | 1 => 1 | n => n⟩
theorem Tryz.lays143 : Go.Proofs.Lays.n143 Tryz.prog Tryz.lays143_ren := {
  mixed := by kernel_rfl
  f143 := Tryz.func121.trans (congrArg some (by kernel_rfl))
  f217 := Tryz.func147.trans (congrArg some (by kernel_rfl))
  f219 := Tryz.func136.trans (congrArg some (by kernel_rfl))
  f224 := Tryz.func149.trans (congrArg some (by kernel_rfl))
  f225 := Tryz.func148.trans (congrArg some (by kernel_rfl))
  f266 := Tryz.func159.trans (congrArg some (by kernel_rfl))
  f267 := Tryz.func150.trans (congrArg some (by kernel_rfl))
  f314 := Tryz.func160.trans (congrArg some (by kernel_rfl))
  t3 := Tryz.underlying3
  a3 := Tryz.isAgg3
  z3 := Tryz.sizeOf3
  v3 := Tryz.zeroValue3
  t4 := Tryz.underlying4
  a4 := Tryz.isAgg4
  z4 := Tryz.sizeOf4
  v4 := Tryz.zeroValue4
  t5 := Tryz.underlying5
  a5 := Tryz.isAgg5
  z5 := Tryz.sizeOf5
  v5 := Tryz.zeroValue5
  t9 := Tryz.underlying9
  a9 := Tryz.isAgg9
  z9 := Tryz.sizeOf9
  v9 := Tryz.zeroValue9
  t46 := Tryz.underlying245
  a46 := Tryz.isAgg245
  z46 := Tryz.sizeOf245
  v46 := Tryz.zeroValue245
  t51 := Tryz.underlying250
  a51 := Tryz.isAgg250
  z51 := Tryz.sizeOf250
  v51 := Tryz.zeroValue250
  t146 := Tryz.underlying251
  a146 := Tryz.isAgg251
  z146 := Tryz.sizeOf251
  v146 := Tryz.zeroValue251
  g1 := by kernel_rfl }
open Go.RowKit Go.Lib in
theorem Tryz.strings_Index_one (s : ByteArray) (c : UInt8) (w : World) :
    Calls Tryz.prog 121 #[.string s, .string ⟨#[c]⟩] w fun e w' => e = .returned (.int .i64 (Lib.indexByte s.data.toList c)) /\ w' = w := Any.strings_Index_one Tryz.lays143 s c w
def Tryz.lays144_ren : Go.Shelf.Ren := ⟨fun | 144 => 104 | 143 => 121 | 219 => 136 | 217 => 147 | 225 => 148 | 224 => 149 | 267 => 150 | 266 => 159 | 314 => 160 | n => n, fun | 9 => 9 | 4 => 4 | 3 => 3 | 5 => 5 | 46 => 245 | 146 => 251 | 51 => 250 | n => n, fun | 1 => 1 | n => n⟩
theorem Tryz.lays144 : Go.Proofs.Lays.n144 Tryz.prog Tryz.lays144_ren := {
  mixed := by kernel_rfl
  f143 := Tryz.func121.trans (congrArg some (by kernel_rfl))
  f144 := Tryz.func104.trans (congrArg some (by kernel_rfl))
  f217 := Tryz.func147.trans (congrArg some (by kernel_rfl))
  f219 := Tryz.func136.trans (congrArg some (by kernel_rfl))
  f224 := Tryz.func149.trans (congrArg some (by kernel_rfl))
  f225 := Tryz.func148.trans (congrArg some (by kernel_rfl))
  f266 := Tryz.func159.trans (congrArg some (by kernel_rfl))
  f267 := Tryz.func150.trans (congrArg some (by kernel_rfl))
  f314 := Tryz.func160.trans (congrArg some (by kernel_rfl))
  t3 := Tryz.underlying3
  a3 := Tryz.isAgg3
  z3 := Tryz.sizeOf3
  v3 := Tryz.zeroValue3
  t4 := Tryz.underlying4
  a4 := Tryz.isAgg4
  z4 := Tryz.sizeOf4
  v4 := Tryz.zeroValue4
  t5 := Tryz.underlying5
  a5 := Tryz.isAgg5
  z5 := Tryz.sizeOf5
  v5 := Tryz.zeroValue5
  t9 := Tryz.underlying9
  a9 := Tryz.isAgg9
  z9 := Tryz.sizeOf9
  v9 := Tryz.zeroValue9
  t46 := Tryz.underlying245
  a46 := Tryz.isAgg245
  z46 := Tryz.sizeOf245
  v46 := Tryz.zeroValue245
  t51 := Tryz.underlying250
  a51 := Tryz.isAgg250
  z51 := Tryz.sizeOf250
  v51 := Tryz.zeroValue250
  t146 := Tryz.underlying251
  a146 := Tryz.isAgg251
  z146 := Tryz.sizeOf251
  v146 := Tryz.zeroValue251
  g1 := by kernel_rfl }
open Go.RowKit Go.Lib in
theorem Tryz.strings_Contains_one (s : ByteArray) (c : UInt8) (w : World) :
    Calls Tryz.prog 104 #[.string s, .string ⟨#[c]⟩] w fun e w' => e = .returned (.bool (decide (0 <= Lib.indexByte s.data.toList c))) /\ w' = w := Any.strings_Contains_one Tryz.lays144 s c w
def Tryz.lays138_ren : Go.Shelf.Ren := ⟨fun | 138 => 167 | 195 => 168 | 218 => 169 | 143 => 121 | 219 => 136 | 217 => 147 | 225 => 148 | 224 => 149 | 267 => 150 | 266 => 159 | 314 => 160 | n => n, fun | 9 => 9 | 3 => 3 | 4 => 4 | 5 => 5 | 0 => 0 | 46 => 245 | 146 => 251 | 51 => 250 | n => n, fun | 1 => 1 | n => n⟩
theorem Tryz.lays138 : Go.Proofs.Lays.n138 Tryz.prog Tryz.lays138_ren := {
  mixed := by kernel_rfl
  f138 := Tryz.func167.trans (congrArg some (by kernel_rfl))
  f143 := Tryz.func121.trans (congrArg some (by kernel_rfl))
  f195 := Tryz.func168.trans (congrArg some (by kernel_rfl))
  f217 := Tryz.func147.trans (congrArg some (by kernel_rfl))
  f218 := Tryz.func169.trans (congrArg some (by kernel_rfl))
  f219 := Tryz.func136.trans (congrArg some (by kernel_rfl))
  f224 := Tryz.func149.trans (congrArg some (by kernel_rfl))
  f225 := Tryz.func148.trans (congrArg some (by kernel_rfl))
  f266 := Tryz.func159.trans (congrArg some (by kernel_rfl))
  f267 := Tryz.func150.trans (congrArg some (by kernel_rfl))
  f314 := Tryz.func160.trans (congrArg some (by kernel_rfl))
  t0 := Tryz.underlying0
  a0 := Tryz.isAgg0
  z0 := Tryz.sizeOf0
  v0 := Tryz.zeroValue0
  t3 := Tryz.underlying3
  a3 := Tryz.isAgg3
  z3 := Tryz.sizeOf3
  v3 := Tryz.zeroValue3
  t4 := Tryz.underlying4
  a4 := Tryz.isAgg4
  z4 := Tryz.sizeOf4
  v4 := Tryz.zeroValue4
  t5 := Tryz.underlying5
  a5 := Tryz.isAgg5
  z5 := Tryz.sizeOf5
  v5 := Tryz.zeroValue5
  t9 := Tryz.underlying9
  a9 := Tryz.isAgg9
  z9 := Tryz.sizeOf9
  v9 := Tryz.zeroValue9
  t46 := Tryz.underlying245
  a46 := Tryz.isAgg245
  z46 := Tryz.sizeOf245
  v46 := Tryz.zeroValue245
  t51 := Tryz.underlying250
  a51 := Tryz.isAgg250
  z51 := Tryz.sizeOf250
  v51 := Tryz.zeroValue250
  t146 := Tryz.underlying251
  a146 := Tryz.isAgg251
  z146 := Tryz.sizeOf251
  v146 := Tryz.zeroValue251
  g1 := by kernel_rfl }
open Go.RowKit Go.Lib in
theorem Tryz.strings_Count_one (s : ByteArray) (c : UInt8) (w : World) :
    Calls Tryz.prog 167 #[.string s, .string ⟨#[c]⟩] w fun e w' => e = .returned (.int .i64 (Lib.countByte s.data.toList c)) /\ w' = w := Any.strings_Count_one Tryz.lays138 s c w
def Tryz.lays99_ren : Go.Shelf.Ren := ⟨fun | 99 => 106 | 206 => 129 | n => n, fun | 9 => 9 | 4 => 4 | 3 => 3 | n => n, fun | n => n⟩
theorem Tryz.lays99 : Go.Proofs.Lays.n99 Tryz.prog Tryz.lays99_ren := {
  mixed := by kernel_rfl
  f99 := Tryz.func106.trans (congrArg some (by kernel_rfl))
  f206 := Tryz.func129.trans (congrArg some (by kernel_rfl))
  t3 := Tryz.underlying3
  a3 := Tryz.isAgg3
  z3 := Tryz.sizeOf3
  v3 := Tryz.zeroValue3
  t4 := Tryz.underlying4
  a4 := Tryz.isAgg4
  z4 := Tryz.sizeOf4
  v4 := Tryz.zeroValue4
  t9 := Tryz.underlying9
  a9 := Tryz.isAgg9
  z9 := Tryz.sizeOf9
  v9 := Tryz.zeroValue9 }
open Go.RowKit Go.Lib in
theorem Tryz.strings_HasPrefix (s p : ByteArray) (w : World) :
    Calls Tryz.prog 106 #[.string s, .string p] w fun e w' => e = .returned (.bool (Lib.hasPrefix s.data.toList p.data.toList)) /\ w' = w := Any.strings_HasPrefix Tryz.lays99 s p w
def Tryz.lays101_ren : Go.Shelf.Ren := ⟨fun | 101 => 131 | 208 => 141 | 206 => 129 | n => n, fun | 9 => 9 | 4 => 4 | 3 => 3 | n => n, fun | n => n⟩
theorem Tryz.lays101 : Go.Proofs.Lays.n101 Tryz.prog Tryz.lays101_ren := {
  mixed := by kernel_rfl
  f101 := Tryz.func131.trans (congrArg some (by kernel_rfl))
  f206 := Tryz.func129.trans (congrArg some (by kernel_rfl))
  f208 := Tryz.func141.trans (congrArg some (by kernel_rfl))
  t3 := Tryz.underlying3
  a3 := Tryz.isAgg3
  z3 := Tryz.sizeOf3
  v3 := Tryz.zeroValue3
  t4 := Tryz.underlying4
  a4 := Tryz.isAgg4
  z4 := Tryz.sizeOf4
  v4 := Tryz.zeroValue4
  t9 := Tryz.underlying9
  a9 := Tryz.isAgg9
  z9 := Tryz.sizeOf9
  v9 := Tryz.zeroValue9 }
open Go.RowKit Go.Lib in
theorem Tryz.strings_TrimPrefix (s p : ByteArray) (w : World) :
    Calls Tryz.prog 131 #[.string s, .string p] w fun e w' => e = .returned (.string ⟨(Lib.trimPrefix s.data.toList p.data.toList).toArray⟩) /\ w' = w := Any.strings_TrimPrefix Tryz.lays101 s p w
def Tryz.lays221_ren : Go.Shelf.Ren := ⟨fun | 221 => 165 | 268 => 166 | 138 => 167 | 143 => 121 | 195 => 168 | 197 => 138 | 218 => 169 | 219 => 136 | 260 => 151 | 217 => 147 | 225 => 148 | 224 => 149 | 267 => 150 | 266 => 159 | 314 => 160 | n => n, fun | 9 => 9 | 3 => 3 | 31 => 130 | 4 => 4 | 0 => 0 | 105 => 232 | 21 => 21 | 5 => 5 | 46 => 245 | 119 => 253 | 139 => 256 | 138 => 255 | 146 => 251 | 51 => 250 | n => n, fun | 1 => 1 | 3 => 2 | 4 => 3 | n => n⟩
theorem Tryz.lays221 : Go.Proofs.Lays.n221 Tryz.prog Tryz.lays221_ren := {
  mixed := by kernel_rfl
  f138 := Tryz.func167.trans (congrArg some (by kernel_rfl))
  f143 := Tryz.func121.trans (congrArg some (by kernel_rfl))
  f195 := Tryz.func168.trans (congrArg some (by kernel_rfl))
  f197 := Tryz.func138.trans (congrArg some (by kernel_rfl))
  f217 := Tryz.func147.trans (congrArg some (by kernel_rfl))
  f218 := Tryz.func169.trans (congrArg some (by kernel_rfl))
  f219 := Tryz.func136.trans (congrArg some (by kernel_rfl))
  f221 := Tryz.func165.trans (congrArg some (by kernel_rfl))
  f224 := Tryz.func149.trans (congrArg some (by kernel_rfl))
  f225 := Tryz.func148.trans (congrArg some (by kernel_rfl))
  f260 := Tryz.func151.trans (congrArg some (by kernel_rfl))
  f266 := Tryz.func159.trans (congrArg some (by kernel_rfl))
  f267 := Tryz.func150.trans (congrArg some (by kernel_rfl))
  f268 := Tryz.func166.trans (congrArg some (by kernel_rfl))
  f314 := Tryz.func160.trans (congrArg some (by kernel_rfl))
  t0 := Tryz.underlying0
  a0 := Tryz.isAgg0
  z0 := Tryz.sizeOf0
  v0 := Tryz.zeroValue0
  t3 := Tryz.underlying3
  a3 := Tryz.isAgg3
  z3 := Tryz.sizeOf3
  v3 := Tryz.zeroValue3
  t4 := Tryz.underlying4
  a4 := Tryz.isAgg4
  z4 := Tryz.sizeOf4
  v4 := Tryz.zeroValue4
  t5 := Tryz.underlying5
  a5 := Tryz.isAgg5
  z5 := Tryz.sizeOf5
  v5 := Tryz.zeroValue5
  t9 := Tryz.underlying9
  a9 := Tryz.isAgg9
  z9 := Tryz.sizeOf9
  v9 := Tryz.zeroValue9
  t21 := Tryz.underlying21
  a21 := Tryz.isAgg21
  z21 := Tryz.sizeOf21
  v21 := Tryz.zeroValue21
  t31 := Tryz.underlying130
  a31 := Tryz.isAgg130
  z31 := Tryz.sizeOf130
  v31 := Tryz.zeroValue130
  t46 := Tryz.underlying245
  a46 := Tryz.isAgg245
  z46 := Tryz.sizeOf245
  v46 := Tryz.zeroValue245
  t51 := Tryz.underlying250
  a51 := Tryz.isAgg250
  z51 := Tryz.sizeOf250
  v51 := Tryz.zeroValue250
  t105 := Tryz.underlying232
  a105 := Tryz.isAgg232
  z105 := Tryz.sizeOf232
  v105 := Tryz.zeroValue232
  t119 := Tryz.underlying253
  a119 := Tryz.isAgg253
  z119 := Tryz.sizeOf253
  t138 := Tryz.underlying255
  a138 := Tryz.isAgg255
  z138 := Tryz.sizeOf255
  v138 := Tryz.zeroValue255
  t139 := Tryz.underlying256
  a139 := Tryz.isAgg256
  z139 := Tryz.sizeOf256
  v139 := Tryz.zeroValue256
  t146 := Tryz.underlying251
  a146 := Tryz.isAgg251
  z146 := Tryz.sizeOf251
  v146 := Tryz.zeroValue251
  g1 := by kernel_rfl
  g3 := by kernel_rfl
  g4 := by kernel_rfl }
end Go.Proofs
namespace Go.Proofs.YtfjklpgmnakcaaaGreatDoor
open Go.RowKit Go.Shelf
attribute [local go_sem] Oper.semAt_some
theorem evT {a : Act} {i : Nat} {v : Value} (h : a.tmps[i]? = some v) : a.eval (.tmp i) = v := by
  show a.tmps.getD i undef = v
  rw [Array.getD_eq_getD_getElem?, h]; rfl
theorem wantN {ops : Array Oper} {o : Oper} {a : Act} (h : o.guard = none) : Region.wanted o (yielded ops a.tmps) = true := by
  unfold Region.wanted; rw [h]
theorem wantG {ops : Array Oper} {o : Oper} {a : Act} {i d : Nat} {b : Bool} (hg : o.guard = some (i, b)) (hd : ((ops[i]?).bind (·.dst)) = some d) (h : a.tmps[d]? = some (.bool b)) : Region.wanted o (yielded ops a.tmps) = true := by
  have y : yielded ops a.tmps i = some b := by
    unfold yielded
    rw [hd]
    show (match a.tmps[d]? with | some (.bool b) => some b | _ => none) = _
    rw [h]
  unfold Region.wanted
  rw [hg]
  show (yielded ops a.tmps i == some b) = true
  rw [y]; simp
theorem act_set : ∀ (L : List (Nat × Value)) (s t : Array Value), s.size = t.size -> (∀ p ∈ L, s[p.1]? = some p.2) -> (∀ j, j ∉ L.map Prod.fst -> s[j]? = t[j]?) -> s = L.foldl (fun u p => u.setIfInBounds p.1 p.2) t
  | [], s, t, _, _, h => Array.ext_getElem? (fun j => h j (by simp))
  | p :: L, s, t, hs, h1, h2 => by
    rw [List.foldl_cons]
    refine act_set L s _ (by simpa using hs) (fun q hq => h1 q (List.mem_cons_of_mem _ hq)) (fun j hj => ?_)
    rw [Array.getElem?_setIfInBounds]
    have hp := h1 p List.mem_cons_self
    by_cases q : p.1 = j
    . have : p.1 < t.size := by rw [<- hs]; exact (Array.getElem?_eq_some_iff.1 hp).1
      rw [if_pos q, if_pos this, <- q]; exact hp
    rw [if_neg q]
    exact h2 j (by rw [List.map_cons]; intro hm; rcases List.mem_cons.1 hm with e | e; exact q e.symm; exact hj e)
theorem act_set' {a a0 : Act} (L : List (Nat × Value)) (hd : a.defers = a0.defers) (hs : a.tmps.size = a0.tmps.size) (h1 : ∀ p ∈ L, a.tmps[p.1]? = some p.2) (h2 : ∀ j, j ∉ L.map Prod.fst -> a.tmps[j]? = a0.tmps[j]?) : a = { a0 with tmps := L.foldl (fun u p => u.setIfInBounds p.1 p.2) a0.tmps } := by
  have := act_set L a.tmps a0.tmps hs h1 h2
  obtain ⟨t, d⟩ := a
  obtain ⟨t0, d0⟩ := a0
  simp only at this hd ⊢
  subst this hd
  rfl
section
variable {o : Oper} {a : Act} {w : World} {K : Act -> World -> Prop} {Q : Exit -> Act -> World -> Prop}
theorem mo_run {v : Value} (e : (execOp a.eval o).run Tryz.prog w = .ok (.value v) w) (hK : K (a.put o.dst v) w) : Oper.wp Tryz.prog o a w K Q := by
  unfold Oper.wp
  rw [e]; exact hK
theorem mo_move {x : Operand} {v : Value} (ho : o.op = Op.move x) (hx : a.eval x = v) (hK : K (a.put o.dst v) w) : Oper.wp Tryz.prog o a w K Q :=
  mo_run (by simp only [execOp, ho, hx]; simp [go_sem]) hK
theorem mo_assign {x : Operand} {v : Value} (ho : o.op = Op.assign x) (hx : a.eval x = v) (hK : K (a.put o.dst v) w) : Oper.wp Tryz.prog o a w K Q :=
  mo_run (by simp only [execOp, ho, hx]; simp [go_sem]) hK
theorem mo_field {x : Operand} {T : TypeId} {k b i j : Nat} (hf : (Instr.fieldAt T (.pointer (some ⟨b, i, none⟩)) k).run Tryz.prog w = .ok (.pointer (some ⟨b, j, none⟩)) w) (ho : o.op = Op.fieldAddr T x k) (hx : a.eval x = .pointer (some ⟨b, i, none⟩)) (hK : K (a.put o.dst (.pointer (some ⟨b, j, none⟩))) w) : Oper.wp Tryz.prog o a w K Q :=
  mo_run (by simp only [execOp, ho, hx]; simp [hf]) hK
theorem mo_load {x : Operand} {T : TypeId} {b i : Nat} {u : Value} (hl : (Instr.loadAt T (.pointer (some ⟨b, i, none⟩))).run Tryz.prog w = .ok u w) (ho : o.op = Op.load T x) (hx : a.eval x = .pointer (some ⟨b, i, none⟩)) (hK : K (a.put o.dst u) w) : Oper.wp Tryz.prog o a w K Q :=
  mo_run (by simp only [execOp, ho, hx]; simp [hl]) hK
end
section
variable {o : Oper} {a : Act} {w : World} {K : Act -> World -> Prop} {Q : Exit -> Act -> World -> Prop} {T : Value -> World -> Prop}
theorem mo_call2 {x y : Operand} {u z : Value} (F : Nat) {T1 T2 : TypeId} (ho : o.op = Op.call { callee := Callee.value (Operand.func F), args := #[x, y], argTypes := #[T1, T2] }) (hx : a.eval x = u) (hy : a.eval y = z)
    (en : ∀ args w, (callFunc F args).run Tryz.prog w = .ok (.enter F args) w) (hC : Calls Tryz.prog F #[u, z] w fun e w' => ∃ v, e = .returned v /\ T v w') (hK : ∀ v w', T v w' -> K (a.put o.dst v) w') : Oper.wp Tryz.prog o a w K Q := by
  unfold Oper.wp
  have e : (execOp a.eval o).run Tryz.prog w = .ok (.enter F #[u, z]) w := by
    have hf : a.eval (.func F) = .func (.func F) #[] #[] := rfl
    generalize a.eval = ρ at hx hy hf ⊢
    simp only [execOp, ho]
    simp [go_sem, resolve, invoke, hx, hy, hf, en]
  rw [e]
  refine hC.mono ?_
  rintro e w' ⟨v, rfl, h⟩
  exact hK v w' h
end
end Go.Proofs.YtfjklpgmnakcaaaGreatDoor
namespace Go.Proofs.YtfjklpgmnakcaaaGreatDoor
open Go.RowKit Go.Shelf
attribute [local go_sem] Oper.semAt_some
section
variable {o : Oper} {a : Act} {w : World} {K : Act -> World -> Prop} {Q : Exit -> Act -> World -> Prop}
theorem mo_index {x y : Operand} {T : TypeId} {u z p : Value} (hr : (Instr.indexAt T u z).run Tryz.prog w = .ok p w) (ho : o.op = Op.indexAddr T x y) (hx : a.eval x = u) (hy : a.eval y = z) (hK : K (a.put o.dst p) w) : Oper.wp Tryz.prog o a w K Q :=
  mo_run (by simp only [execOp, ho, hx, hy]; simp [hr]) hK
theorem mo_loadv {x : Operand} {T : TypeId} {p u : Value} (hl : (Instr.loadAt T p).run Tryz.prog w = .ok u w) (ho : o.op = Op.load T x) (hx : a.eval x = p) (hK : K (a.put o.dst u) w) : Oper.wp Tryz.prog o a w K Q :=
  mo_run (by simp only [execOp, ho, hx]; simp [hl]) hK
end
end Go.Proofs.YtfjklpgmnakcaaaGreatDoor
namespace Go.Proofs.YtfjklpgmnakcaaaGreatDoor
abbrev Fld := List UInt8 × List UInt8
structure It where
  kind : Int
  raw : List UInt8
  fields : List Fld
deriving DecidableEq
structure PS where
  begin_ : Nat
  said : List (List UInt8)
  items : List It
  stanzas : Nat
  at_ : Nat
  fields : List Fld
deriving DecidableEq
def PS.new : PS := ⟨0, [], [], 0, 0, []⟩
abbrev Res (α : Type) := Except (Nat × Nat) α
def fullP (p : PS) : Bool := if p.fields.length = 0 then p.stanzas == 400 else p.fields.length == 40
def endFieldN (p : PS) : Nat := if p.said = [] then 0 else if unfoldN p.said ≠ 0 then unfoldN p.said else if fullP p then 11 else 0
def endFieldP (p : PS) : PS := if p.said = [] then p else { p with fields := p.fields ++ [(unfoldK p.said, unfoldV p.said)], said := [] }
def endItemP (text : List UInt8) (p : PS) (kind end_ : Nat) : PS := { p with items := p.items ++ [⟨kind, (text.take end_).drop p.at_, p.fields⟩], at_ := end_, fields := [] }
def endBlockP (text : List UInt8) (p : PS) (end_ : Nat) : PS :=
  if p.at_ = end_ then p else if p.fields.length = 0 then endItemP text p 2 end_ else { endItemP text p 3 end_ with stanzas := p.stanzas + 1 }
def goesP (p : PS) (x : Ln) : Bool := kindL x.text == 3 && !(p.said.isEmpty)
def wentP (p : PS) (x : Ln) : PS := if goesP p x then { p with said := p.said ++ [x.text] } else p
def wrongP (p : PS) (x : Ln) : Bool := kindL x.text == 5 || (kindL x.text == 3 && !goesP p x) || !x.ended
def endsP (p : PS) (x : Ln) : Bool := wrongP p x || !goesP p x
def putP (text : List UInt8) (p : PS) (x : Ln) : PS :=
  if kindL x.text = 4 then { p with begin_ := x.no, said := [x.text] }
  else if kindL x.text = 1 then endItemP text (endBlockP text p x.at_) 1 (x.at_ + x.text.length + 1)
  else p
def thenP (p : PS) (x : Ln) : PS := if endsP p x then endFieldP (wentP p x) else wentP p x
def takeP (text : List UInt8) (p : PS) (x : Ln) : Res PS :=
  if endsP p x = true /\ endFieldN (wentP p x) ≠ 0 then .error ((wentP p x).begin_, endFieldN (wentP p x))
  else if wrongP p x then .error (x.no, 2)
  else .ok (putP text (thenP p x) x)
def runP (text : List UInt8) : PS -> List Ln -> Res PS
  | p, [] => .ok p
  | p, x :: xs => match takeP text p x with
    | .error e => .error e
    | .ok q => runP text q xs
def lastP (text : List UInt8) (p : PS) : Res (List It) :=
  if endFieldN p ≠ 0 then .error (p.begin_, endFieldN p) else .ok (endBlockP text (endFieldP p) text.length).items
def parseL (text : List UInt8) : Res (List It) :=
  match runP text PS.new (linesOf text) with
  | .error e => .error e
  | .ok p => lastP text p
theorem runP_append (text : List UInt8) : ∀ (p : PS) (a b : List Ln), runP text p (a ++ b) = match runP text p a with | .error e => .error e | .ok q => runP text q b
  | p, [], b => rfl
  | p, x :: a, b => by
    show (match takeP text p x with | .error e => _ | .ok q => runP text q (a ++ b)) = match (match takeP text p x with | .error e => _ | .ok q => runP text q a) with | .error e => _ | .ok q => _
    cases takeP text p x with
    | error e => rfl
    | ok q => exact runP_append text q a b
theorem unfoldN_le (ls : List (List UInt8)) : unfoldN ls <= 6 := by
  unfold unfoldN
  split
  . split <;> decide
  decide
theorem endFieldN_le (p : PS) : endFieldN p <= 11 := by
  unfold endFieldN
  have := unfoldN_le p.said
  split
  . decide
  split
  . omega
  split <;> decide
structure Inv (p : PS) (c : Nat) : Prop where
  at_ : p.at_ <= c
  items : p.items.length <= p.at_
  stanzas : p.stanzas <= p.at_
  begin_ : p.begin_ <= c
  fields : p.fields.length <= c
  said : (p.said.map List.length).sum + p.said.length <= c
  both : p.fields.length + p.said.length <= c
theorem Inv.new : Inv PS.new 0 := ⟨Nat.le_refl _, Nat.le_refl _, Nat.le_refl _, Nat.le_refl _, Nat.le_refl _, Nat.le_refl _, Nat.le_refl _⟩
theorem Inv.mono {p : PS} {c d : Nat} (h : Inv p c) (hd : c <= d) : Inv p d :=
  ⟨Nat.le_trans h.at_ hd, h.items, h.stanzas, Nat.le_trans h.begin_ hd, Nat.le_trans h.fields hd, Nat.le_trans h.said hd, Nat.le_trans h.both hd⟩
theorem Inv.endField {p : PS} {c : Nat} (h : Inv p c) : Inv (endFieldP p) c := by
  unfold endFieldP
  split
  . exact h
  rename_i hs
  have hb := h.both
  have : 1 <= p.said.length := by cases hp : p.said with | nil => exact absurd hp hs | cons a l => simp
  exact ⟨h.at_, h.items, h.stanzas, h.begin_, by simp; omega, by simp, by simp; omega⟩
theorem Inv.endItem {p : PS} {c : Nat} (text : List UInt8) (kind e : Nat) (h : Inv p c) (h1 : p.at_ < e) (h2 : e <= c) : Inv (endItemP text p kind e) c := by
  have a := h.items; have b := h.stanzas
  refine ⟨h2, ?_, ?_, h.begin_, by simp [endItemP], h.said, ?_⟩
  . simp [endItemP]; omega
  . simp [endItemP]; omega
  have := h.both; simp [endItemP]; omega
theorem Inv.endBlock {p : PS} {c : Nat} (text : List UInt8) (e : Nat) (h : Inv p c) (h1 : p.at_ <= e) (h2 : e <= c) : Inv (endBlockP text p e) c := by
  unfold endBlockP
  split
  . exact h
  split
  . exact h.endItem text 2 e (by omega) h2
  have g := h.endItem text 3 e (by omega) h2
  exact ⟨g.at_, g.items, by have := h.stanzas; show p.stanzas + 1 <= e; omega, g.begin_, g.fields, g.said, g.both⟩
theorem endField_at (p : PS) : (endFieldP p).at_ = p.at_ := by unfold endFieldP; split <;> rfl
theorem endField_said (p : PS) : (endFieldP p).said = [] := by unfold endFieldP; split <;> simp_all
theorem endBlock_at (text : List UInt8) (p : PS) (e : Nat) (h : p.at_ <= e) : (endBlockP text p e).at_ = e := by
  unfold endBlockP
  split
  . assumption
  split <;> rfl
theorem endBlock_said (text : List UInt8) (p : PS) (e : Nat) : (endBlockP text p e).said = p.said := by
  unfold endBlockP
  split
  . rfl
  split <;> rfl
theorem wentP_at (p : PS) (x : Ln) : (wentP p x).at_ = p.at_ := by unfold wentP; split <;> rfl
theorem Inv.went {p : PS} {x : Ln} {c : Nat} (h : Inv p c) : Inv (wentP p x) (c + x.text.length + 1) := by
  unfold wentP
  split
  . have a := h.said; have b := h.both
    refine ⟨by have := h.at_; show p.at_ <= _; omega, h.items, h.stanzas, by have := h.begin_; show p.begin_ <= _; omega, by have := h.fields; show p.fields.length <= _; omega, ?_, ?_⟩
    . simp; omega
    simp; omega
  exact h.mono (by omega)
theorem Inv.then_ {p : PS} {x : Ln} {c : Nat} (h : Inv p c) : Inv (thenP p x) (c + x.text.length + 1) := by
  unfold thenP
  split
  . exact h.went.endField
  exact h.went
theorem thenP_at (p : PS) (x : Ln) : (thenP p x).at_ = p.at_ := by
  unfold thenP
  split
  . rw [endField_at, wentP_at]
  exact wentP_at p x
theorem thenP_said {p : PS} {x : Ln} (h : goesP p x = false) : (thenP p x).said = [] := by
  unfold thenP endsP
  rw [h]
  simp only [Bool.not_false, Bool.or_true, if_true]
  exact endField_said _
theorem goes_kind {p : PS} {x : Ln} (h : kindL x.text ≠ 3) : goesP p x = false := by unfold goesP; simp [h]
theorem Inv.take {text : List UInt8} {p q : PS} {x : Ln} (h : Inv p x.at_) (hno : x.no <= x.at_) (he : takeP text p x = .ok q) : Inv q (x.at_ + x.bytes.length) /\ x.ended = true := by
  unfold takeP at he
  split at he
  . cases he
  split at he
  . cases he
  rename_i hw
  have hen : x.ended = true := by
    cases hx : x.ended with
    | true => rfl
    | false => exact absurd (by unfold wrongP; rw [hx]; simp) hw
  have hb : x.at_ + x.bytes.length = x.at_ + x.text.length + 1 := by unfold Ln.bytes; rw [hen]; simp; omega
  refine ⟨?_, hen⟩
  rw [hb]
  cases he
  have t := h.then_ (x := x)
  unfold putP
  split
  . rename_i hk
    have e := thenP_said (goes_kind (p := p) (x := x) (by omega))
    refine ⟨t.at_, t.items, t.stanzas, by show x.no <= _; omega, t.fields, by simp, ?_⟩
    have hf : (thenP p x).fields.length <= x.at_ := by
      have g := goes_kind (p := p) (x := x) (by omega)
      unfold thenP endsP wentP
      rw [g]
      simp only [Bool.not_false, Bool.or_true, if_true]
      exact (Inv.endField h).fields
    simp; omega
  split
  . have ta := thenP_at p x
    have ha := h.at_
    refine Inv.endItem text 1 _ (t.endBlock text x.at_ (by omega) (by omega)) ?_ (by omega)
    rw [endBlock_at text _ _ (by omega)]; omega
  exact t
end Go.Proofs.YtfjklpgmnakcaaaGreatDoor
namespace Go.Proofs.YtfjklpgmnakcaaaGreatDoor
structure Good (t : List UInt8) (p : PS) : Prop where
  st : p.stanzas <= 400
  st' : p.fields ≠ [] -> p.stanzas <= 399
  fl : p.fields.length <= 40
  each : ∀ it ∈ p.items, it.fields.length <= 40
  join : p.items.flatMap It.raw = t.take p.at_
theorem Good.new (t : List UInt8) : Good t PS.new := ⟨by decide, fun h => absurd rfl h, by decide, (fun it h => by cases h), rfl⟩
theorem Good.endField {t : List UInt8} {p : PS} (h : Good t p) (h0 : endFieldN p = 0) : Good t (endFieldP p) := by
  unfold endFieldP
  split
  . exact h
  rename_i hs
  unfold endFieldN at h0
  rw [if_neg hs] at h0
  split at h0
  . rename_i hu; exact absurd h0 hu
  have hfull : fullP p = false := by
    cases hf : fullP p with
    | false => rfl
    | true => rw [hf] at h0; simp at h0
  unfold fullP at hfull
  have fl := h.fl
  have st := h.st
  refine ⟨h.st, fun _ => ?_, ?_, h.each, h.join⟩
  . show p.stanzas <= 399
    split at hfull
    . have : p.stanzas ≠ 400 := by simpa using hfull
      omega
    rename_i hz
    exact h.st' (fun e => hz (by rw [e]; rfl))
  show (p.fields ++ [_]).length <= 40
  rw [List.length_append]
  split at hfull
  . simp; omega
  have : p.fields.length ≠ 40 := by simpa using hfull
  simp; omega
theorem drop_take_join (t : List UInt8) (a e : Nat) (h : a <= e) : t.take a ++ (t.take e).drop a = t.take e := by
  conv => rhs; rw [<- List.take_append_drop a (t.take e), List.take_take, Nat.min_eq_left h]
theorem Good.endItem {t : List UInt8} {p : PS} (h : Good t p) (kind e : Nat) (hle : p.at_ <= e) : Good t (endItemP t p kind e) := by
  refine ⟨h.st, fun hn => absurd rfl hn, by simp [endItemP], ?_, ?_⟩
  . intro it hi
    rcases List.mem_append.1 hi with hi | hi
    . exact h.each it hi
    rw [List.mem_singleton.1 hi]; exact h.fl
  show (p.items ++ [_]).flatMap It.raw = t.take e
  rw [List.flatMap_append, h.join]
  simp only [List.flatMap_cons, List.flatMap_nil, List.append_nil]
  exact drop_take_join t p.at_ e hle
theorem Good.endBlock {t : List UInt8} {p : PS} (h : Good t p) (e : Nat) (hle : p.at_ <= e) : Good t (endBlockP t p e) := by
  unfold endBlockP
  split
  . exact h
  split
  . exact h.endItem 2 e hle
  rename_i hz
  have g := h.endItem 3 e hle
  have := h.st' (fun e => hz (by rw [e]; rfl))
  exact ⟨by show p.stanzas + 1 <= 400; omega, fun hn => absurd rfl hn, g.fl, g.each, g.join⟩
theorem Good.went {t : List UInt8} {p : PS} (h : Good t p) (x : Ln) : Good t (wentP p x) := by
  unfold wentP
  split
  . exact ⟨h.st, h.st', h.fl, h.each, h.join⟩
  exact h
theorem take_parts {t : List UInt8} {p q : PS} {x : Ln} (he : takeP t p x = .ok q) : (endsP p x = true -> endFieldN (wentP p x) = 0) /\ wrongP p x = false /\ q = putP t (thenP p x) x := by
  unfold takeP at he
  split at he
  . cases he
  rename_i h1
  split at he
  . cases he
  rename_i h2
  cases he
  refine ⟨fun hn => ?_, by simpa using h2, rfl⟩
  rcases Nat.decEq (endFieldN (wentP p x)) 0 with e | e
  . exact absurd ⟨hn, e⟩ h1
  exact e
theorem take_of {t : List UInt8} {p : PS} {x : Ln} (h1 : endsP p x = true -> endFieldN (wentP p x) = 0) (h2 : wrongP p x = false) : takeP t p x = .ok (putP t (thenP p x) x) := by
  unfold takeP
  rw [if_neg (fun h => h.2 (h1 h.1)), h2]; rfl
theorem Good.then_ {t : List UInt8} {p : PS} {x : Ln} (h : Good t p) (h1 : endsP p x = true -> endFieldN (wentP p x) = 0) : Good t (thenP p x) := by
  unfold thenP
  split
  . rename_i he; exact (h.went x).endField (h1 he)
  exact h.went x
theorem Good.put {t : List UInt8} {p : PS} {x : Ln} (h : Good t p) (ha : p.at_ <= x.at_) : Good t (putP t p x) := by
  unfold putP
  split
  . exact ⟨h.st, h.st', h.fl, h.each, h.join⟩
  split
  . refine (h.endBlock x.at_ ha).endItem 1 _ ?_
    rw [endBlock_at t p _ ha]; omega
  exact h
theorem Good.take {t : List UInt8} {p q : PS} {x : Ln} (h : Good t p) (ha : p.at_ <= x.at_) (he : takeP t p x = .ok q) : Good t q := by
  obtain ⟨h1, _, rfl⟩ := take_parts he
  exact (h.then_ h1).put (by rw [thenP_at]; exact ha)
def Runs : Nat -> Nat -> List Ln -> Prop
  | _, _, [] => True
  | no, c, x :: xs => x.no = no /\ x.at_ = c /\ 1 <= x.bytes.length /\ Runs (no + 1) (c + x.bytes.length) xs
theorem runs_linesOn : ∀ (n no at_ : Nat) (l : List UInt8), l.length <= n -> Runs no at_ (linesOn no at_ l)
  | 0, no, at_, l, h => by
    have : l = [] := List.length_eq_zero_iff.1 (by omega)
    subst this; rw [linesOn_nil]; trivial
  | n + 1, no, at_, l, h => by
    by_cases hl : l = []
    . subst hl; rw [linesOn_nil]; trivial
    have hp := used_pos l hl
    rw [linesOn_cons _ _ _ hl]
    have hb : (Ln.bytes ⟨no, at_, head l, nl l⟩).length = used l := by
      unfold Ln.bytes used; simp only [List.length_append]; split <;> rfl
    refine ⟨rfl, rfl, by rw [hb]; exact hp, ?_⟩
    rw [hb]
    exact runs_linesOn n _ _ _ (by simp only [List.length_drop]; omega)
theorem run_good (t : List UInt8) : ∀ (xs : List Ln) (no c : Nat) (p q : PS), Runs no c xs -> no <= c -> Inv p c -> Good t p -> runP t p xs = .ok q -> Inv q (c + (xs.flatMap Ln.bytes).length) /\ Good t q /\ ∀ x ∈ xs, x.ended = true
  | [], no, c, p, q, _, _, hi, hg, he => by
    cases he
    exact ⟨by simpa using hi, hg, fun x h => by cases h⟩
  | x :: xs, no, c, p, q, hr, hn, hi, hg, he => by
    obtain ⟨r1, r2, r3, r4⟩ := hr
    unfold runP at he
    cases ht : takeP t p x with
    | error e => rw [ht] at he; cases he
    | ok p1 =>
    rw [ht] at he
    dsimp only at he
    rw [<- r2] at hi
    obtain ⟨i1, e1⟩ := Inv.take hi (by omega) ht
    have g1 := hg.take hi.at_ ht
    rw [r2] at i1
    obtain ⟨a, b, d⟩ := run_good t xs (no + 1) (c + x.bytes.length) p1 q r4 (by omega) i1 g1 he
    refine ⟨?_, b, fun y hy => ?_⟩
    . rw [List.flatMap_cons, List.length_append, <- Nat.add_assoc]; exact a
    rcases List.mem_cons.1 hy with rfl | hy
    . exact e1
    exact d y hy
theorem parse_good {t : List UInt8} {its : List It} (h : parseL t = .ok its) : ∃ p, runP t PS.new (linesOf t) = .ok p /\ endFieldN p = 0 /\ its = (endBlockP t (endFieldP p) t.length).items /\ Good t (endBlockP t (endFieldP p) t.length) /\ Inv (endBlockP t (endFieldP p) t.length) t.length /\ (endFieldP p).at_ <= t.length := by
  unfold parseL at h
  cases hr : runP t PS.new (linesOf t) with
  | error e => rw [hr] at h; cases h
  | ok p =>
  rw [hr] at h
  dsimp only at h
  unfold lastP at h
  split at h
  . cases h
  rename_i h0
  have h0 : endFieldN p = 0 := by simpa using h0
  cases h
  obtain ⟨a, b, _⟩ := run_good t _ 0 0 _ _ (runs_linesOn _ 0 0 t (Nat.le_refl _)) (Nat.le_refl _) Inv.new (Good.new t) hr
  rw [show linesOn 0 0 t = linesOf t from rfl, linesOf_join, Nat.zero_add] at a
  exact ⟨p, rfl, h0, rfl, (b.endField h0).endBlock _ a.endField.at_, a.endField.endBlock t _ a.endField.at_ (Nat.le_refl _), a.endField.at_⟩
theorem parse_join {t : List UInt8} {its : List It} (h : parseL t = .ok its) : its.flatMap It.raw = t /\ its.length <= t.length /\ ∀ it ∈ its, it.fields.length <= 40 /\ it.raw.length <= t.length := by
  obtain ⟨p, _, _, rfl, g, i, hle⟩ := parse_good h
  have ha := endBlock_at t (endFieldP p) t.length hle
  have hj := g.join
  rw [ha, List.take_length] at hj
  refine ⟨hj, by have := i.items; rw [ha] at this; exact this, fun it hi => ⟨g.each it hi, ?_⟩⟩
  obtain ⟨a, b, e⟩ := List.append_of_mem hi
  rw [e, List.flatMap_append, List.flatMap_cons] at hj
  have := congrArg List.length hj
  simp only [List.length_append] at this
  omega
end Go.Proofs.YtfjklpgmnakcaaaGreatDoor
namespace Go.Proofs.YtfjklpgmnakcaaaGreatDoor
def sh (d e : Nat) (x : Ln) : Ln := ⟨d + x.no, e + x.at_, x.text, x.ended⟩
end Go.Proofs.YtfjklpgmnakcaaaGreatDoor
namespace Go.Proofs.YtfjklpgmnakcaaaGreatDoor
end Go.Proofs.YtfjklpgmnakcaaaGreatDoor
namespace Go.Proofs.YtfjklpgmnakcaaaGreatDoor
def num : Nat -> Nat -> List (List UInt8) -> List Ln
  | _, _, [] => []
  | no, c, l :: r => ⟨no, c, l, true⟩ :: num (no + 1) (c + l.length + 1) r
def linesFs (fs : List Fld) : List (List UInt8) := fs.flatMap fun f => linesL f.1 f.2
end Go.Proofs.YtfjklpgmnakcaaaGreatDoor
namespace Go.Proofs.YtfjklpgmnakcaaaGreatDoor
end Go.Proofs.YtfjklpgmnakcaaaGreatDoor
namespace Go.Proofs.YtfjklpgmnakcaaaGreatDoor
open Go.RowKit
def Flds (w : World) (v : Value) (fs : List (List UInt8 × List UInt8)) : Prop :=
  ∃ A cap, v = .slice A fs.length cap /\ fs.length <= cap /\ ∀ (i : Nat) (f : List UInt8 × List UInt8), fs[i]? = some f -> ∃ b off, A = some ⟨b, off, none⟩ /\ b < w.heap.size /\ w.cell? ⟨b, off + i * 2, none⟩ = some (.string (B f.1)) /\ w.cell? ⟨b, off + i * 2 + 1, none⟩ = some (.string (B f.2))
theorem Flds.below {w w' : World} {v : Value} {fs : List (List UInt8 × List UInt8)} {n : Nat} (h : Flds w v fs) (hb : Below n w w') (hn : w.heap.size <= n) : Flds w' v fs := by
  obtain ⟨A, cap, hv, hle, hc⟩ := h
  refine ⟨A, cap, hv, hle, fun i s hs => ?_⟩
  obtain ⟨b, off, hA, hlt, c0, c1⟩ := hc i s hs
  exact ⟨b, off, hA, Nat.lt_of_lt_of_le hlt hb.size, (hb.cell (p := ⟨b, off + i * 2, none⟩) (Nat.lt_of_lt_of_le hlt hn)).trans c0, (hb.cell (p := ⟨b, off + i * 2 + 1, none⟩) (Nat.lt_of_lt_of_le hlt hn)).trans c1⟩
def cellsF (fs : List (List UInt8 × List UInt8)) : List Value := fs.flatMap fun f => [.string (B f.1), .string (B f.2)]
theorem cellsF_len : ∀ fs, (cellsF fs).length = fs.length * 2
  | [] => rfl
  | f :: r => by
    have := cellsF_len r
    show (Value.string (B f.1) :: Value.string (B f.2) :: cellsF r).length = _
    simp only [List.length_cons, this]; omega
theorem cellsF_at : ∀ (fs : List (List UInt8 × List UInt8)) (i : Nat) (f : List UInt8 × List UInt8), fs[i]? = some f -> (cellsF fs)[i * 2]? = some (.string (B f.1)) /\ (cellsF fs)[i * 2 + 1]? = some (.string (B f.2))
  | [], i, f, h => by simp at h
  | a :: r, 0, f, h => by simp at h; subst h; exact ⟨rfl, rfl⟩
  | a :: r, i + 1, f, h => by
    have ih := cellsF_at r i f (by simpa using h)
    have e : cellsF (a :: r) = Value.string (B a.1) :: Value.string (B a.2) :: cellsF r := rfl
    rw [e, show (i + 1) * 2 = i * 2 + 1 + 1 by omega]
    simpa using ih
theorem infoFld : (Tryz.prog.info? 55).map (fun i => (i.zero, i.size, i.bytes)) = some (some (.agg #[.string ⟨#[]⟩, .string ⟨#[]⟩]), 2, 32) := by kernel_rfl
theorem flds_of_own {w : World} {base : Nat} {v : Value} {fs : List (List UInt8 × List UInt8)} (h : w.ownsRow base 55 2 v fs.length (cellsF fs)) : Flds w v fs := by
  rcases Joins.ownsRow_forms h with ⟨rfl, hn⟩ | ⟨g, cap, rfl⟩
  . have : fs = [] := by cases fs with | nil => rfl | cons _ _ => simp at hn
    subst this
    exact ⟨none, 0, rfl, Nat.le_refl _, fun i f h => by simp at h⟩
  refine ⟨_, cap, rfl, (by rcases h.2 with ⟨q, _⟩ | ⟨g', cap', cur, q, _, _, q2, _⟩; cases q; cases q; exact q2), fun i f hf => ⟨g, 0, rfl, (World.ownsRow.lt h g rfl).2, ?_⟩⟩
  have hi : i < fs.length := by
    rcases Nat.lt_or_ge i fs.length with q | q
    . exact q
    rw [List.getElem?_eq_none q] at hf; cases hf
  obtain ⟨a, b⟩ := cellsF_at fs i f hf
  rw [Nat.zero_add, World.ownsRow.cellAt h (i * 2) (by omega), World.ownsRow.cellAt h (i * 2 + 1) (by omega)]
  exact ⟨a, b⟩
end Go.Proofs.YtfjklpgmnakcaaaGreatDoor
namespace Go.Proofs.YtfjklpgmnakcaaaGreatDoor
open Go.RowKit
theorem step_append_own {P : Program} {ops : Array Oper} {o : Oper} {a : Act} {w : World} {K : Act -> World -> Prop} {Q : Exit -> Act -> World -> Prop} {E : Prop}
    (hg : o.guard = none) (s x : Operand) (t : TypeId) (hop : o.op = Op.call { callee := Callee.builtin Builtin.append, args := #[s, x], argTypes := #[t, t] })
    (e : TypeId) (i : TypeInfo) (z : Value) (size bytes : Nat) (ht : P.underlying t = some (.slice e)) (hi : P.info? e = some i) (hz : i.zero = some z)
    (hsize : i.size = size) (hby : i.bytes = bytes) (hzs : z.cells.size = size) (hsz : 0 < size)
    (v : Value) (n : Nat) (xs : List Value) (hs : a.eval s = v) (hown : w.ownsRow 0 e size v n xs)
    (ad : Addr) (m c : Nat) (news : List Value) (hx : a.eval x = .slice (some ad) m c) (hl : news.length = m * size) (hnews : ∀ j u, news[j]? = some u -> w.cell? (ad.add j) = some u) (h1 : ∀ u ∈ news, u.oneCell' = true)
    (h63 : n + m <= maxLen) (hbytes : (n + m) * bytes <= 140737488355328)
    (hK : ∀ v' w', w'.ownsRow 0 e size v' (n + m) (xs ++ news) -> w.grownBy w' v.ownBlock -> (v'.ownBlock = v.ownBlock \/ v'.ownBlock = some w.heap.size) -> K (a.put o.dst v') w') :
    if Region.wanted o (yielded ops a.tmps) = true then Oper.wp P o a w K Q else E := by
  have hw : Region.wanted o (yielded ops a.tmps) = true := by simp [Region.wanted, hg]
  rw [if_pos hw]
  obtain ⟨v', w', hr, h2, h3, h4, h5⟩ := run_append_own_at (P := P) w 0 t o.type e i z size bytes ht hi hz hsize hby hzs hsz v n xs hown ad m c news hl hnews h1 h63 hbytes (Nat.zero_le _)
  unfold Oper.wp
  simp [execOp, hop, resolve, invoke, builtin, hs, hx, hr, Result.andThen]
  exact hK v' w' h2 h3 h5
theorem cells_new_add (w : World) (t : TypeId) (cs : List Value) : ∀ j u, cs[j]? = some u -> (w.alloc (.cells cs.toArray t)).cell? ((⟨w.heap.size, 0, none⟩ : Addr).add j) = some u := by
  intro j u hj
  have := (Cells.new w t cs.toArray).cell j
  have e : (⟨w.heap.size, 0, none⟩ : Addr).add j = ⟨w.heap.size, j, none⟩ := by unfold Addr.add; split <;> simp_all
  rw [e, this, List.getElem?_toArray, hj]
theorem slice_of_own {w : World} {base : Nat} {e : TypeId} {size : Nat} {v : Value} {n : Nat} {xs : List Value} (h : w.ownsRow base e size v (n + 1) xs) : ∃ g cap, v = .slice (some ⟨g, 0, none⟩) (n + 1) cap := by
  rcases h.2 with ⟨_, h⟩ | ⟨g, cap, _, h, _⟩
  . omega
  exact ⟨g, cap, h⟩
theorem appended {w W w' : World} {g : Nat} {t : TypeId} {cur : Array Value} (hg : Cells w g t cur) {vw v' : Value} {n : Nat} {xs A : List Value} {e : TypeId} {size : Nat} (hown : w.ownsRow 0 e size vw n xs) (hne : vw.ownBlock ≠ some g)
    (hb : Below w.heap.size w W) (ho : w'.ownsRow 0 e size v' (n + 1) (xs ++ A)) (hgr : W.grownBy w' vw.ownBlock) (hbk : v'.ownBlock = vw.ownBlock \/ v'.ownBlock = some W.heap.size) :
    (∃ g' cap, v' = .slice (some ⟨g', 0, none⟩) (n + 1) cap) /\ Cells w' g t cur /\ (∀ r, w.heap.size <= r -> r < W.heap.size -> w'.heap[r]? = W.heap[r]?) /\
      (v'.ownBlock = vw.ownBlock \/ ∃ k, v'.ownBlock = some k /\ w.heap.size <= k /\ k < w'.heap.size) /\ Only (fun r => some r = vw.ownBlock) w w' := by
  have hs := hb.size
  refine ⟨slice_of_own ho, (hgr.block g (Nat.lt_of_lt_of_le hg.lt hs) (fun e => hne e.symm)).trans ((hb.block g hg.lt).trans hg), fun r h1 h2 => hgr.block r h2 (fun e => ?_), ?_, ?_⟩
  . have := (hown.lt r e.symm).2; omega
  . rcases hbk with h | h
    . exact .inl h
    exact .inr ⟨_, h, hs, (ho.lt _ h).2⟩
  exact (Only.of_below hb (Nat.le_refl _)).grown hgr (fun k hk => .inl hk.symm)
def tagged (T : Nat -> Nat) (o : Option Nat) (t : Nat) : Prop := ∀ b, o = some b -> T b = t
def retag (T : Nat -> Nat) (lo : Nat) (o : Option Nat) (t : Nat) : Nat -> Nat := fun b => if lo <= b /\ o = some b then t else T b
def sameOr (lo hi : Nat) (a b : Option Nat) : Prop := b = a \/ ∃ k, b = some k /\ lo <= k /\ k < hi
theorem retag_old {T : Nat -> Nat} {lo : Nat} {o : Option Nat} {t b : Nat} (h : b < lo) : retag T lo o t b = T b := by
  unfold retag; rw [if_neg (by omega)]
theorem retag_same {T : Nat -> Nat} {lo hi : Nat} {a b : Option Nat} {t : Nat} (h : sameOr lo hi a b) (ha : tagged T a t) : tagged (retag T lo b t) b t := by
  intro k hk
  unfold retag
  split
  . rfl
  rename_i hn
  rcases h with h | ⟨j, h, h1, _⟩
  . exact ha k (by rw [<- h]; exact hk)
  rw [h] at hk; cases hk; exact absurd ⟨h1, h⟩ hn
theorem retag_other {T : Nat -> Nat} {lo : Nat} {o c : Option Nat} {t u : Nat} (hc : tagged T c u) (hl : ∀ k, c = some k -> k < lo) : tagged (retag T lo o t) c u := by
  intro k hk; rw [retag_old (hl k hk)]; exact hc k hk
end Go.Proofs.YtfjklpgmnakcaaaGreatDoor
