/- Texts put together: S, RO, JB, IA, IB. -/
import Derived.Shelf.Strings.Builder1
import Derived.Shelf.Strings.Builder2
import Derived.Shelf.Strings.OnBuilder
import Derived.Shelf.Strings.Trim
import Derived.Shelf.Small.Utf8
import Derived.Shelf.Small.Bits
import Derived.Shelf.Small.Strs
import Derived.Shelf.Strings.BuilderF
import Derived.Shelf.Strings.BuilderK
import Derived.Shelf.Strings.Builder2Cap
import Derived.Shelf.Strconv.Itoa0
import Derived.Shelf.Strings.Search1
import Derived.Shelf.Strings.Search2
import Derived.Shelf.Strings.Search3
import Derived.Shelf.Strings.Cut
import Derived.Shelf.Strings.Count
import Derived.Shelf.LaysM
import Derived.Shelf.Strings.Shaped
import Derived.Shelf.Strings.Prefix
import Derived.Shelf.Strings.Split
import Derived.Shelf.Strings.SplitShaped
import Derived.Shelf.Strings.Runes
import Derived.Shelf.Strings.AsciiSet
import Derived.Shelf.Unicode.DecodeSlow
import Derived.Ground.SlgnProg
import Derived.Shelf.SlicesG.CompactI
import Derived.Ground.SlgmProg
import Derived.Shelf.SortM.Plain
import Derived.Shelf.SortM.SortNone
import Derived.Test.YtiebbgbcojgeoaaGreatDoorProg
import Derived.Maps.Views
import Derived.Maps.OwnSet
import Derived.Maps.RangeWalk
import Derived.WalkSpells
import Derived.Test.YtiebbgbcojgeoaaGreatDoorBas1
set_option linter.unusedVariables false
namespace Go.Proofs
open Go.Shelf
def Tryz.lays169_ren : Go.Shelf.Ren := ⟨fun | 169 => 135 | n => n, fun | 70 => 214 | 9 => 9 | 0 => 0 | 72 => 217 | 37 => 215 | 127 => 234 | 3 => 3 | 5 => 5 | n => n, fun | n => n⟩
theorem Tryz.lays169 : Go.Proofs.Lays.n169 Tryz.prog Tryz.lays169_ren := {
  mixed := by kernel_rfl
  f169 := Tryz.func135.trans (congrArg some (by kernel_rfl))
  t0 := Tryz.underlying0
  a0 := Tryz.isAgg0
  z0 := Tryz.sizeOf0
  v0 := Tryz.zeroValue0
  t3 := Tryz.underlying3
  a3 := Tryz.isAgg3
  z3 := Tryz.sizeOf3
  v3 := Tryz.zeroValue3
  t9 := Tryz.underlying9
  a9 := Tryz.isAgg9
  z9 := Tryz.sizeOf9
  v9 := Tryz.zeroValue9
  t37 := Tryz.underlying215
  a37 := Tryz.isAgg215
  z37 := Tryz.sizeOf215
  v37 := Tryz.zeroValue215
  t70 := Tryz.underlying214
  a70 := Tryz.isAgg214
  z70 := Tryz.sizeOf214
  v70 := Tryz.zeroValue214
  t72 := Tryz.underlying217
  a72 := Tryz.isAgg217
  z72 := Tryz.sizeOf217
  v72 := Tryz.zeroValue217
  t127 := Tryz.underlying234
  a127 := Tryz.isAgg234
  z127 := Tryz.sizeOf234
  v127 := Tryz.zeroValue234 }
theorem Tryz.Builder_Extra_169 : Builder.Extra Tryz.prog Tryz.lays169_ren := {
  sizeBuilder := by kernel_rfl
  liesBuilder := by kernel_rfl
  t5 := Tryz.underlying5
  a5 := Tryz.isAgg5
  z5 := Tryz.sizeOf5
  v5 := Tryz.zeroValue5
  infoByte := by kernel_rfl
  cellsByte := by kernel_rfl
  sizeByte := by kernel_rfl
  neB5 := by decide }
def Tryz.lays156_ren : Go.Shelf.Ren := ⟨fun | 156 => 170 | 165 => 201 | 166 => 134 | 169 => 135 | 240 => 157 | 241 => 222 | 276 => 194 | 277 => 230 | n => n, fun | 31 => 69 | 9 => 9 | 3 => 3 | 4 => 4 | 0 => 0 | 20 => 20 | 72 => 217 | 76 => 70 | 70 => 214 | 37 => 215 | 75 => 27 | 127 => 234 | 164 => 263 | 5 => 5 | 80 => 54 | n => n, fun | n => n⟩
theorem Tryz.lays156 : Go.Proofs.Lays.n156 Tryz.prog Tryz.lays156_ren := {
  mixed := by kernel_rfl
  f156 := Tryz.func170.trans (congrArg some (by kernel_rfl))
  f165 := Tryz.func201.trans (congrArg some (by kernel_rfl))
  f166 := Tryz.func134.trans (congrArg some (by kernel_rfl))
  f169 := Tryz.func135.trans (congrArg some (by kernel_rfl))
  f240 := Tryz.func157.trans (congrArg some (by kernel_rfl))
  f241 := Tryz.func222.trans (congrArg some (by kernel_rfl))
  f276 := Tryz.func194.trans (congrArg some (by kernel_rfl))
  f277 := Tryz.func230.trans (congrArg some (by kernel_rfl))
  t0 := Tryz.underlying0
  a0 := Tryz.isAgg0
  z0 := Tryz.sizeOf0
  v0 := Tryz.zeroValue0
  t3 := Tryz.underlying3
  a3 := Tryz.isAgg3
  z3 := Tryz.sizeOf3
  v3 := Tryz.zeroValue3
  t4 := Tryz.underlying4
  a4 := Tryz.isAgg4
  z4 := Tryz.sizeOf4
  v4 := Tryz.zeroValue4
  t9 := Tryz.underlying9
  a9 := Tryz.isAgg9
  z9 := Tryz.sizeOf9
  v9 := Tryz.zeroValue9
  t20 := Tryz.underlying20
  a20 := Tryz.isAgg20
  z20 := Tryz.sizeOf20
  v20 := Tryz.zeroValue20
  t31 := Tryz.underlying69
  a31 := Tryz.isAgg69
  z31 := Tryz.sizeOf69
  v31 := Tryz.zeroValue69
  t37 := Tryz.underlying215
  a37 := Tryz.isAgg215
  z37 := Tryz.sizeOf215
  v37 := Tryz.zeroValue215
  t70 := Tryz.underlying214
  a70 := Tryz.isAgg214
  z70 := Tryz.sizeOf214
  v70 := Tryz.zeroValue214
  t72 := Tryz.underlying217
  a72 := Tryz.isAgg217
  z72 := Tryz.sizeOf217
  v72 := Tryz.zeroValue217
  t75 := Tryz.underlying27
  a75 := Tryz.isAgg27
  z75 := Tryz.sizeOf27
  v75 := Tryz.zeroValue27
  t76 := Tryz.underlying70
  a76 := Tryz.isAgg70
  z76 := Tryz.sizeOf70
  v76 := Tryz.zeroValue70
  t127 := Tryz.underlying234
  a127 := Tryz.isAgg234
  z127 := Tryz.sizeOf234
  v127 := Tryz.zeroValue234
  t164 := Tryz.underlying263
  a164 := Tryz.isAgg263
  z164 := Tryz.sizeOf263
  v164 := Tryz.zeroValue263 }
theorem Tryz.Builder_Extra_156 : Builder.Extra Tryz.prog Tryz.lays156_ren := {
  sizeBuilder := by kernel_rfl
  liesBuilder := by kernel_rfl
  t5 := Tryz.underlying5
  a5 := Tryz.isAgg5
  z5 := Tryz.sizeOf5
  v5 := Tryz.zeroValue5
  infoByte := by kernel_rfl
  cellsByte := by kernel_rfl
  sizeByte := by kernel_rfl
  neB5 := by decide }
open Go.RowKit in
theorem Tryz.strings_Join (bk o c : Nat) (xs : List ByteArray) (sep : ByteArray) (w : World) (hcells : ∀ (j : Nat) x, xs[j]? = some x → w.cell? ⟨bk, o + j, none⟩ = some (.string x)) (hbk : bk < w.heap.size) (hN : xs.length ≤ 140737488355328) (hcap : xs.length ≤ c) (hlen : (Lib.join (xs.map (·.data.toList)) sep.data.toList).length ≤ 140737488355328) :
    Calls Tryz.prog 170 #[.slice (some ⟨bk, o, none⟩) xs.length c, .string sep] w fun e w' => e = .returned (.string ⟨(Lib.join (xs.map (·.data.toList)) sep.data.toList).toArray⟩) ∧ Below w.heap.size w w' := Any.strings_Join Tryz.lays156 Tryz.Builder_Extra_156 bk o c xs sep w hcells hbk hN hcap hlen
def Tryz.lays160_ren : Go.Shelf.Ren := ⟨fun | 160 => 141 | 232 => 161 | 231 => 160 | 227 => 162 | 234 => 164 | 233 => 163 | 236 => 166 | 235 => 165 | 228 => 196 | 271 => 199 | 151 => 198 | 197 => 197 | 120 => 221 | 152 => 220 | 260 => 219 | 137 => 228 | 119 => 229 | 224 => 217 | 225 => 216 | 217 => 215 | 266 => 226 | n => n, fun | 9 => 9 | 4 => 4 | 3 => 3 | 5 => 5 | 117 => 238 | 116 => 237 | 0 => 0 | 124 => 241 | 21 => 21 | 105 => 265 | 46 => 231 | 119 => 286 | 139 => 289 | 138 => 288 | n => n, fun | 3 => 1 | 4 => 2 | n => n⟩
theorem Tryz.lays160 : Go.Proofs.Lays.n160 Tryz.prog Tryz.lays160_ren := {
  mixed := by kernel_rfl
  f119 := Tryz.func229.trans (congrArg some (by kernel_rfl))
  f120 := Tryz.func221.trans (congrArg some (by kernel_rfl))
  f137 := Tryz.func228.trans (congrArg some (by kernel_rfl))
  f151 := Tryz.func198.trans (congrArg some (by kernel_rfl))
  f152 := Tryz.func220.trans (congrArg some (by kernel_rfl))
  f160 := Tryz.func141.trans (congrArg some (by kernel_rfl))
  f197 := Tryz.func197.trans (congrArg some (by kernel_rfl))
  f217 := Tryz.func215.trans (congrArg some (by kernel_rfl))
  f224 := Tryz.func217.trans (congrArg some (by kernel_rfl))
  f225 := Tryz.func216.trans (congrArg some (by kernel_rfl))
  f227 := Tryz.func162.trans (congrArg some (by kernel_rfl))
  f228 := Tryz.func196.trans (congrArg some (by kernel_rfl))
  f231 := Tryz.func160.trans (congrArg some (by kernel_rfl))
  f232 := Tryz.func161.trans (congrArg some (by kernel_rfl))
  f233 := Tryz.func163.trans (congrArg some (by kernel_rfl))
  f234 := Tryz.func164.trans (congrArg some (by kernel_rfl))
  f235 := Tryz.func165.trans (congrArg some (by kernel_rfl))
  f236 := Tryz.func166.trans (congrArg some (by kernel_rfl))
  f260 := Tryz.func219.trans (congrArg some (by kernel_rfl))
  f266 := Tryz.func226.trans (congrArg some (by kernel_rfl))
  f271 := Tryz.func199.trans (congrArg some (by kernel_rfl))
  t0 := Tryz.underlying0
  a0 := Tryz.isAgg0
  z0 := Tryz.sizeOf0
  v0 := Tryz.zeroValue0
  t3 := Tryz.underlying3
  a3 := Tryz.isAgg3
  z3 := Tryz.sizeOf3
  v3 := Tryz.zeroValue3
  t4 := Tryz.underlying4
  a4 := Tryz.isAgg4
  z4 := Tryz.sizeOf4
  v4 := Tryz.zeroValue4
  t5 := Tryz.underlying5
  a5 := Tryz.isAgg5
  z5 := Tryz.sizeOf5
  v5 := Tryz.zeroValue5
  t9 := Tryz.underlying9
  a9 := Tryz.isAgg9
  z9 := Tryz.sizeOf9
  v9 := Tryz.zeroValue9
  t21 := Tryz.underlying21
  a21 := Tryz.isAgg21
  z21 := Tryz.sizeOf21
  v21 := Tryz.zeroValue21
  t46 := Tryz.underlying231
  a46 := Tryz.isAgg231
  z46 := Tryz.sizeOf231
  v46 := Tryz.zeroValue231
  t105 := Tryz.underlying265
  a105 := Tryz.isAgg265
  z105 := Tryz.sizeOf265
  v105 := Tryz.zeroValue265
  t116 := Tryz.underlying237
  a116 := Tryz.isAgg237
  z116 := Tryz.sizeOf237
  t117 := Tryz.underlying238
  a117 := Tryz.isAgg238
  z117 := Tryz.sizeOf238
  v117 := Tryz.zeroValue238
  t119 := Tryz.underlying286
  a119 := Tryz.isAgg286
  z119 := Tryz.sizeOf286
  t124 := Tryz.underlying241
  a124 := Tryz.isAgg241
  z124 := Tryz.sizeOf241
  v124 := Tryz.zeroValue241
  t138 := Tryz.underlying288
  a138 := Tryz.isAgg288
  z138 := Tryz.sizeOf288
  v138 := Tryz.zeroValue288
  t139 := Tryz.underlying289
  a139 := Tryz.isAgg289
  z139 := Tryz.sizeOf289
  v139 := Tryz.zeroValue289
  g3 := by kernel_rfl
  g4 := by kernel_rfl }
open Go.RowKit in
theorem Tryz.Builder_String_any_k (B b : Nat) (l : List UInt8) (w : World) (h : Lib.IsBuilderF 217 5 B b (Lib.byteCells l) w) (hBw : B ≤ w.heap.size) :
    Calls Tryz.prog 135 #[.pointer (some ⟨b, 0, none⟩)] w fun e w' => e = .returned (.string ⟨l.toArray⟩) ∧ (Lib.IsBuilderF 217 5 B b (Lib.byteCells l) w' ∧ Below B w w' ∧ Lib.OthersKept 5 (some b) w w') := Any.Builder_String_any_k Tryz.lays169 Tryz.Builder_Extra_169 B b l w h hBw
def Tryz.lays219_ren : Go.Shelf.Ren := ⟨fun | 219 => 195 | 217 => 215 | 225 => 216 | 224 => 217 | 267 => 218 | 266 => 226 | 314 => 227 | n => n, fun | 9 => 9 | 3 => 3 | 4 => 4 | 5 => 5 | 46 => 231 | 146 => 284 | 51 => 254 | n => n, fun | 1 => 0 | n => n⟩
theorem Tryz.lays219 : Go.Proofs.Lays.n219 Tryz.prog Tryz.lays219_ren := {
  mixed := by kernel_rfl
  f217 := Tryz.func215.trans (congrArg some (by kernel_rfl))
  f219 := Tryz.func195.trans (congrArg some (by kernel_rfl))
  f224 := Tryz.func217.trans (congrArg some (by kernel_rfl))
  f225 := Tryz.func216.trans (congrArg some (by kernel_rfl))
  f266 := Tryz.func226.trans (congrArg some (by kernel_rfl))
  f267 := Tryz.func218.trans (congrArg some (by kernel_rfl))
  f314 := Tryz.func227.trans (congrArg some (by kernel_rfl))
  t3 := Tryz.underlying3
  a3 := Tryz.isAgg3
  z3 := Tryz.sizeOf3
  v3 := Tryz.zeroValue3
  t4 := Tryz.underlying4
  a4 := Tryz.isAgg4
  z4 := Tryz.sizeOf4
  v4 := Tryz.zeroValue4
  t5 := Tryz.underlying5
  a5 := Tryz.isAgg5
  z5 := Tryz.sizeOf5
  v5 := Tryz.zeroValue5
  t9 := Tryz.underlying9
  a9 := Tryz.isAgg9
  z9 := Tryz.sizeOf9
  v9 := Tryz.zeroValue9
  t46 := Tryz.underlying231
  a46 := Tryz.isAgg231
  z46 := Tryz.sizeOf231
  v46 := Tryz.zeroValue231
  t51 := Tryz.underlying254
  a51 := Tryz.isAgg254
  z51 := Tryz.sizeOf254
  v51 := Tryz.zeroValue254
  t146 := Tryz.underlying284
  a146 := Tryz.isAgg284
  z146 := Tryz.sizeOf284
  v146 := Tryz.zeroValue284
  g1 := by kernel_rfl }
open Go.RowKit Go.Lib in
theorem Tryz.stringslite_Index_one (s : ByteArray) (c : UInt8) (w : World) :
    Calls Tryz.prog 195 #[.string s, .string ⟨#[c]⟩] w fun e w' => e = .returned (.int .i64 (Lib.indexByte s.data.toList c)) ∧ w' = w := Any.stringslite_Index_one Tryz.lays219 s c w
def Tryz.lays143_ren : Go.Shelf.Ren := ⟨fun | 143 => 159 | 219 => 195 | 217 => 215 | 225 => 216 | 224 => 217 | 267 => 218 | 266 => 226 | 314 => 227 | n => n, fun | 9 => 9 | 3 => 3 | 4 => 4 | 5 => 5 | 46 => 231 | 146 => 284 | 51 => 254 | n => n, fun | 1 => 0 | n => n⟩
theorem Tryz.lays143 : Go.Proofs.Lays.n143 Tryz.prog Tryz.lays143_ren := {
  mixed := by kernel_rfl
  f143 := Tryz.func159.trans (congrArg some (by kernel_rfl))
  f217 := Tryz.func215.trans (congrArg some (by kernel_rfl))
  f219 := Tryz.func195.trans (congrArg some (by kernel_rfl))
  f224 := Tryz.func217.trans (congrArg some (by kernel_rfl))
  f225 := Tryz.func216.trans (congrArg some (by kernel_rfl))
  f266 := Tryz.func226.trans (congrArg some (by kernel_rfl))
  f267 := Tryz.func218.trans (congrArg some (by kernel_rfl))
  f314 := Tryz.func227.trans (congrArg some (by kernel_rfl))
  t3 := Tryz.underlying3
  a3 := Tryz.isAgg3
  z3 := Tryz.sizeOf3
  v3 := Tryz.zeroValue3
  t4 := Tryz.underlying4
  a4 := Tryz.isAgg4
  z4 := Tryz.sizeOf4
  v4 := Tryz.zeroValue4
  t5 := Tryz.underlying5
  a5 := Tryz.isAgg5
  z5 := Tryz.sizeOf5
  v5 := Tryz.zeroValue5
  t9 := Tryz.underlying9
  a9 := Tryz.isAgg9
  z9 := Tryz.sizeOf9
  v9 := Tryz.zeroValue9
  t46 := Tryz.underlying231
  a46 := Tryz.isAgg231
  z46 := Tryz.sizeOf231
  v46 := Tryz.zeroValue231
  t51 := Tryz.underlying254
  a51 := Tryz.isAgg254
  z51 := Tryz.sizeOf254
  v51 := Tryz.zeroValue254
  t146 := Tryz.underlying284
  a146 := Tryz.isAgg284
  z146 := Tryz.sizeOf284
  v146 := Tryz.zeroValue284
  g1 := by kernel_rfl }
open Go.RowKit Go.Lib in
theorem Tryz.strings_Index_one (s : ByteArray) (c : UInt8) (w : World) :
    Calls Tryz.prog 159 #[.string s, .string ⟨#[c]⟩] w fun e w' => e = .returned (.int .i64 (Lib.indexByte s.data.toList c)) ∧ w' = w := Any.strings_Index_one Tryz.lays143 s c w
def Tryz.lays144_ren : Go.Shelf.Ren := ⟨fun | 144 => 140 | 143 => 159 | 219 => 195 | 217 => 215 | 225 => 216 | 224 => 217 | 267 => 218 | 266 => 226 | 314 => 227 | n => n, fun | 9 => 9 | 4 => 4 | 3 => 3 | 5 => 5 | 46 => 231 | 146 => 284 | 51 => 254 | n => n, fun | 1 => 0 | n => n⟩
theorem Tryz.lays144 : Go.Proofs.Lays.n144 Tryz.prog Tryz.lays144_ren := {
  mixed := by kernel_rfl
  f143 := Tryz.func159.trans (congrArg some (by kernel_rfl))
  f144 := Tryz.func140.trans (congrArg some (by kernel_rfl))
  f217 := Tryz.func215.trans (congrArg some (by kernel_rfl))
  f219 := Tryz.func195.trans (congrArg some (by kernel_rfl))
  f224 := Tryz.func217.trans (congrArg some (by kernel_rfl))
  f225 := Tryz.func216.trans (congrArg some (by kernel_rfl))
  f266 := Tryz.func226.trans (congrArg some (by kernel_rfl))
  f267 := Tryz.func218.trans (congrArg some (by kernel_rfl))
  f314 := Tryz.func227.trans (congrArg some (by kernel_rfl))
  t3 := Tryz.underlying3
  a3 := Tryz.isAgg3
  z3 := Tryz.sizeOf3
  v3 := Tryz.zeroValue3
  t4 := Tryz.underlying4
  a4 := Tryz.isAgg4
  z4 := Tryz.sizeOf4
  v4 := Tryz.zeroValue4
  t5 := Tryz.underlying5
  a5 := Tryz.isAgg5
  z5 := Tryz.sizeOf5
  v5 := Tryz.zeroValue5
  t9 := Tryz.underlying9
  a9 := Tryz.isAgg9
  z9 := Tryz.sizeOf9
  v9 := Tryz.zeroValue9
  t46 := Tryz.underlying231
  a46 := Tryz.isAgg231
  z46 := Tryz.sizeOf231
  v46 := Tryz.zeroValue231
  t51 := Tryz.underlying254
  a51 := Tryz.isAgg254
  z51 := Tryz.sizeOf254
  v51 := Tryz.zeroValue254
  t146 := Tryz.underlying284
  a146 := Tryz.isAgg284
  z146 := Tryz.sizeOf284
  v146 := Tryz.zeroValue284
  g1 := by kernel_rfl }
open Go.RowKit Go.Lib in
theorem Tryz.strings_Contains_one (s : ByteArray) (c : UInt8) (w : World) :
    Calls Tryz.prog 140 #[.string s, .string ⟨#[c]⟩] w fun e w' => e = .returned (.bool (decide (0 ≤ Lib.indexByte s.data.toList c))) ∧ w' = w := Any.strings_Contains_one Tryz.lays144 s c w
def Tryz.lays138_ren : Go.Shelf.Ren := ⟨fun | 138 => 232 | 195 => 233 | 218 => 234 | 143 => 159 | 219 => 195 | 217 => 215 | 225 => 216 | 224 => 217 | 267 => 218 | 266 => 226 | 314 => 227 | n => n, fun | 9 => 9 | 3 => 3 | 4 => 4 | 5 => 5 | 0 => 0 | 46 => 231 | 146 => 284 | 51 => 254 | n => n, fun | 1 => 0 | n => n⟩
theorem Tryz.lays138 : Go.Proofs.Lays.n138 Tryz.prog Tryz.lays138_ren := {
  mixed := by kernel_rfl
  f138 := Tryz.func232.trans (congrArg some (by kernel_rfl))
  f143 := Tryz.func159.trans (congrArg some (by kernel_rfl))
  f195 := Tryz.func233.trans (congrArg some (by kernel_rfl))
  f217 := Tryz.func215.trans (congrArg some (by kernel_rfl))
  f218 := Tryz.func234.trans (congrArg some (by kernel_rfl))
  f219 := Tryz.func195.trans (congrArg some (by kernel_rfl))
  f224 := Tryz.func217.trans (congrArg some (by kernel_rfl))
  f225 := Tryz.func216.trans (congrArg some (by kernel_rfl))
  f266 := Tryz.func226.trans (congrArg some (by kernel_rfl))
  f267 := Tryz.func218.trans (congrArg some (by kernel_rfl))
  f314 := Tryz.func227.trans (congrArg some (by kernel_rfl))
  t0 := Tryz.underlying0
  a0 := Tryz.isAgg0
  z0 := Tryz.sizeOf0
  v0 := Tryz.zeroValue0
  t3 := Tryz.underlying3
  a3 := Tryz.isAgg3
  z3 := Tryz.sizeOf3
  v3 := Tryz.zeroValue3
  t4 := Tryz.underlying4
  a4 := Tryz.isAgg4
  z4 := Tryz.sizeOf4
  v4 := Tryz.zeroValue4
  t5 := Tryz.underlying5
  a5 := Tryz.isAgg5
  z5 := Tryz.sizeOf5
  v5 := Tryz.zeroValue5
  t9 := Tryz.underlying9
  a9 := Tryz.isAgg9
  z9 := Tryz.sizeOf9
  v9 := Tryz.zeroValue9
  t46 := Tryz.underlying231
  a46 := Tryz.isAgg231
  z46 := Tryz.sizeOf231
  v46 := Tryz.zeroValue231
  t51 := Tryz.underlying254
  a51 := Tryz.isAgg254
  z51 := Tryz.sizeOf254
  v51 := Tryz.zeroValue254
  t146 := Tryz.underlying284
  a146 := Tryz.isAgg284
  z146 := Tryz.sizeOf284
  v146 := Tryz.zeroValue284
  g1 := by kernel_rfl }
open Go.RowKit Go.Lib in
theorem Tryz.strings_Count_one (s : ByteArray) (c : UInt8) (w : World) :
    Calls Tryz.prog 232 #[.string s, .string ⟨#[c]⟩] w fun e w' => e = .returned (.int .i64 (Lib.countByte s.data.toList c)) ∧ w' = w := Any.strings_Count_one Tryz.lays138 s c w
def Tryz.lays99_ren : Go.Shelf.Ren := ⟨fun | 99 => 142 | 206 => 167 | n => n, fun | 9 => 9 | 4 => 4 | 3 => 3 | n => n, fun | n => n⟩
theorem Tryz.lays99 : Go.Proofs.Lays.n99 Tryz.prog Tryz.lays99_ren := {
  mixed := by kernel_rfl
  f99 := Tryz.func142.trans (congrArg some (by kernel_rfl))
  f206 := Tryz.func167.trans (congrArg some (by kernel_rfl))
  t3 := Tryz.underlying3
  a3 := Tryz.isAgg3
  z3 := Tryz.sizeOf3
  v3 := Tryz.zeroValue3
  t4 := Tryz.underlying4
  a4 := Tryz.isAgg4
  z4 := Tryz.sizeOf4
  v4 := Tryz.zeroValue4
  t9 := Tryz.underlying9
  a9 := Tryz.isAgg9
  z9 := Tryz.sizeOf9
  v9 := Tryz.zeroValue9 }
open Go.RowKit Go.Lib in
theorem Tryz.strings_HasPrefix (s p : ByteArray) (w : World) :
    Calls Tryz.prog 142 #[.string s, .string p] w fun e w' => e = .returned (.bool (Lib.hasPrefix s.data.toList p.data.toList)) ∧ w' = w := Any.strings_HasPrefix Tryz.lays99 s p w
def Tryz.lays101_ren : Go.Shelf.Ren := ⟨fun | 101 => 169 | 208 => 200 | 206 => 167 | n => n, fun | 9 => 9 | 4 => 4 | 3 => 3 | n => n, fun | n => n⟩
theorem Tryz.lays101 : Go.Proofs.Lays.n101 Tryz.prog Tryz.lays101_ren := {
  mixed := by kernel_rfl
  f101 := Tryz.func169.trans (congrArg some (by kernel_rfl))
  f206 := Tryz.func167.trans (congrArg some (by kernel_rfl))
  f208 := Tryz.func200.trans (congrArg some (by kernel_rfl))
  t3 := Tryz.underlying3
  a3 := Tryz.isAgg3
  z3 := Tryz.sizeOf3
  v3 := Tryz.zeroValue3
  t4 := Tryz.underlying4
  a4 := Tryz.isAgg4
  z4 := Tryz.sizeOf4
  v4 := Tryz.zeroValue4
  t9 := Tryz.underlying9
  a9 := Tryz.isAgg9
  z9 := Tryz.sizeOf9
  v9 := Tryz.zeroValue9 }
open Go.RowKit Go.Lib in
theorem Tryz.strings_TrimPrefix (s p : ByteArray) (w : World) :
    Calls Tryz.prog 169 #[.string s, .string p] w fun e w' => e = .returned (.string ⟨(Lib.trimPrefix s.data.toList p.data.toList).toArray⟩) ∧ w' = w := Any.strings_TrimPrefix Tryz.lays101 s p w
def Tryz.lays221_ren : Go.Shelf.Ren := ⟨fun | 221 => 223 | 268 => 231 | 138 => 232 | 143 => 159 | 195 => 233 | 197 => 197 | 218 => 234 | 219 => 195 | 260 => 219 | 217 => 215 | 225 => 216 | 224 => 217 | 267 => 218 | 266 => 226 | 314 => 227 | n => n, fun | 9 => 9 | 3 => 3 | 31 => 69 | 4 => 4 | 0 => 0 | 105 => 265 | 21 => 21 | 5 => 5 | 46 => 231 | 119 => 286 | 139 => 289 | 138 => 288 | 146 => 284 | 51 => 254 | n => n, fun | 1 => 0 | 3 => 1 | 4 => 2 | n => n⟩
theorem Tryz.lays221 : Go.Proofs.Lays.n221 Tryz.prog Tryz.lays221_ren := {
  mixed := by kernel_rfl
  f138 := Tryz.func232.trans (congrArg some (by kernel_rfl))
  f143 := Tryz.func159.trans (congrArg some (by kernel_rfl))
  f195 := Tryz.func233.trans (congrArg some (by kernel_rfl))
  f197 := Tryz.func197.trans (congrArg some (by kernel_rfl))
  f217 := Tryz.func215.trans (congrArg some (by kernel_rfl))
  f218 := Tryz.func234.trans (congrArg some (by kernel_rfl))
  f219 := Tryz.func195.trans (congrArg some (by kernel_rfl))
  f221 := Tryz.func223.trans (congrArg some (by kernel_rfl))
  f224 := Tryz.func217.trans (congrArg some (by kernel_rfl))
  f225 := Tryz.func216.trans (congrArg some (by kernel_rfl))
  f260 := Tryz.func219.trans (congrArg some (by kernel_rfl))
  f266 := Tryz.func226.trans (congrArg some (by kernel_rfl))
  f267 := Tryz.func218.trans (congrArg some (by kernel_rfl))
  f268 := Tryz.func231.trans (congrArg some (by kernel_rfl))
  f314 := Tryz.func227.trans (congrArg some (by kernel_rfl))
  t0 := Tryz.underlying0
  a0 := Tryz.isAgg0
  z0 := Tryz.sizeOf0
  v0 := Tryz.zeroValue0
  t3 := Tryz.underlying3
  a3 := Tryz.isAgg3
  z3 := Tryz.sizeOf3
  v3 := Tryz.zeroValue3
  t4 := Tryz.underlying4
  a4 := Tryz.isAgg4
  z4 := Tryz.sizeOf4
  v4 := Tryz.zeroValue4
  t5 := Tryz.underlying5
  a5 := Tryz.isAgg5
  z5 := Tryz.sizeOf5
  v5 := Tryz.zeroValue5
  t9 := Tryz.underlying9
  a9 := Tryz.isAgg9
  z9 := Tryz.sizeOf9
  v9 := Tryz.zeroValue9
  t21 := Tryz.underlying21
  a21 := Tryz.isAgg21
  z21 := Tryz.sizeOf21
  v21 := Tryz.zeroValue21
  t31 := Tryz.underlying69
  a31 := Tryz.isAgg69
  z31 := Tryz.sizeOf69
  v31 := Tryz.zeroValue69
  t46 := Tryz.underlying231
  a46 := Tryz.isAgg231
  z46 := Tryz.sizeOf231
  v46 := Tryz.zeroValue231
  t51 := Tryz.underlying254
  a51 := Tryz.isAgg254
  z51 := Tryz.sizeOf254
  v51 := Tryz.zeroValue254
  t105 := Tryz.underlying265
  a105 := Tryz.isAgg265
  z105 := Tryz.sizeOf265
  v105 := Tryz.zeroValue265
  t119 := Tryz.underlying286
  a119 := Tryz.isAgg286
  z119 := Tryz.sizeOf286
  t138 := Tryz.underlying288
  a138 := Tryz.isAgg288
  z138 := Tryz.sizeOf288
  v138 := Tryz.zeroValue288
  t139 := Tryz.underlying289
  a139 := Tryz.isAgg289
  z139 := Tryz.sizeOf289
  v139 := Tryz.zeroValue289
  t146 := Tryz.underlying284
  a146 := Tryz.isAgg284
  z146 := Tryz.sizeOf284
  v146 := Tryz.zeroValue284
  g1 := by kernel_rfl
  g3 := by kernel_rfl
  g4 := by kernel_rfl }
end Go.Proofs

namespace Go.Proofs.YtiebbgbcojgeoaaGreatDoor
open Go.RowKit Go.Shelf
attribute [local go_sem] Oper.semAt_some

theorem evT {a : Act} {i : Nat} {v : Value} (h : a.tmps[i]? = some v) : a.eval (.tmp i) = v := by
  show a.tmps.getD i undef = v
  rw [Array.getD_eq_getD_getElem?, h]; rfl
theorem wantN {ops : Array Oper} {o : Oper} {a : Act} (h : o.guard = none) : Region.wanted o (yielded ops a.tmps) = true := by
  unfold Region.wanted; rw [h]
theorem wantG {ops : Array Oper} {o : Oper} {a : Act} {i d : Nat} {b : Bool} (hg : o.guard = some (i, b)) (hd : ((ops[i]?).bind (·.dst)) = some d) (h : a.tmps[d]? = some (.bool b)) : Region.wanted o (yielded ops a.tmps) = true := by
  have y : yielded ops a.tmps i = some b := by
    unfold yielded
    rw [hd]
    show (match a.tmps[d]? with | some (.bool b) => some b | _ => none) = _
    rw [h]
  unfold Region.wanted
  rw [hg]
  show (yielded ops a.tmps i == some b) = true
  rw [y]; simp
theorem act_set : ∀ (L : List (Nat × Value)) (s t : Array Value), s.size = t.size → (∀ p ∈ L, s[p.1]? = some p.2) → (∀ j, j ∉ L.map Prod.fst → s[j]? = t[j]?) → s = L.foldl (fun u p => u.setIfInBounds p.1 p.2) t
  | [], s, t, _, _, h => Array.ext_getElem? (fun j => h j (by simp))
  | p :: L, s, t, hs, h1, h2 => by
    rw [List.foldl_cons]
    refine act_set L s _ (by simpa using hs) (fun q hq => h1 q (List.mem_cons_of_mem _ hq)) (fun j hj => ?_)
    rw [Array.getElem?_setIfInBounds]
    have hp := h1 p List.mem_cons_self
    by_cases q : p.1 = j
    · have : p.1 < t.size := by rw [← hs]; exact (Array.getElem?_eq_some_iff.1 hp).1
      rw [if_pos q, if_pos this, ← q]; exact hp
    · rw [if_neg q]
      exact h2 j (by rw [List.map_cons]; intro hm; rcases List.mem_cons.1 hm with e | e; exact q e.symm; exact hj e)
theorem act_set' {a a0 : Act} (L : List (Nat × Value)) (hd : a.defers = a0.defers) (hs : a.tmps.size = a0.tmps.size) (h1 : ∀ p ∈ L, a.tmps[p.1]? = some p.2) (h2 : ∀ j, j ∉ L.map Prod.fst → a.tmps[j]? = a0.tmps[j]?) : a = { a0 with tmps := L.foldl (fun u p => u.setIfInBounds p.1 p.2) a0.tmps } := by
  have := act_set L a.tmps a0.tmps hs h1 h2
  obtain ⟨t, d⟩ := a
  obtain ⟨t0, d0⟩ := a0
  simp only at this hd ⊢
  subst this hd
  rfl
section
variable {o : Oper} {a : Act} {w : World} {K : Act → World → Prop} {Q : Exit → Act → World → Prop}
theorem mo_run {v : Value} (e : (execOp a.eval o).run Tryz.prog w = .ok (.value v) w) (hK : K (a.put o.dst v) w) : Oper.wp Tryz.prog o a w K Q := by
  unfold Oper.wp
  rw [e]; exact hK
theorem mo_move {x : Operand} {v : Value} (ho : o.op = Op.move x) (hx : a.eval x = v) (hK : K (a.put o.dst v) w) : Oper.wp Tryz.prog o a w K Q :=
  mo_run (by simp only [execOp, ho, hx]; simp [go_sem]) hK
theorem mo_assign {x : Operand} {v : Value} (ho : o.op = Op.assign x) (hx : a.eval x = v) (hK : K (a.put o.dst v) w) : Oper.wp Tryz.prog o a w K Q :=
  mo_run (by simp only [execOp, ho, hx]; simp [go_sem]) hK
theorem mo_pick {c x y : Operand} {b : Bool} {v u z : Value} (ho : o.op = Op.pick c x y) (hc : a.eval c = .bool b) (hx : a.eval x = v) (hy : a.eval y = u) (hz : z = if b = true then v else u) (hK : K (a.put o.dst z) w) : Oper.wp Tryz.prog o a w K Q := by
  subst hz
  exact mo_run (by simp only [execOp, ho, hc, hx, hy]; cases b <;> simp [go_sem]) hK
theorem mo_load {x : Operand} {T : TypeId} {b i : Nat} {u : Value} (hl : (Instr.loadAt T (.pointer (some ⟨b, i, none⟩))).run Tryz.prog w = .ok u w) (ho : o.op = Op.load T x) (hx : a.eval x = .pointer (some ⟨b, i, none⟩)) (hK : K (a.put o.dst u) w) : Oper.wp Tryz.prog o a w K Q :=
  mo_run (by simp only [execOp, ho, hx]; simp [hl]) hK
end
section
variable {o : Oper} {a : Act} {w : World} {K : Act → World → Prop} {Q : Exit → Act → World → Prop} {T : Value → World → Prop}
theorem mo_call2 {x y : Operand} {u z : Value} (F : Nat) {T1 T2 : TypeId} (ho : o.op = Op.call { callee := Callee.value (Operand.func F), args := #[x, y], argTypes := #[T1, T2] }) (hx : a.eval x = u) (hy : a.eval y = z)
    (en : ∀ args w, (callFunc F args).run Tryz.prog w = .ok (.enter F args) w) (hC : Calls Tryz.prog F #[u, z] w fun e w' => ∃ v, e = .returned v ∧ T v w') (hK : ∀ v w', T v w' → K (a.put o.dst v) w') : Oper.wp Tryz.prog o a w K Q := by
  unfold Oper.wp
  have e : (execOp a.eval o).run Tryz.prog w = .ok (.enter F #[u, z]) w := by
    have hf : a.eval (.func F) = .func (.func F) #[] #[] := rfl
    generalize a.eval = ρ at hx hy hf ⊢
    simp only [execOp, ho]
    simp [go_sem, resolve, invoke, hx, hy, hf, en]
  rw [e]
  refine hC.mono ?_
  rintro e w' ⟨v, rfl, h⟩
  exact hK v w' h
end
end Go.Proofs.YtiebbgbcojgeoaaGreatDoor

namespace Go.Proofs.YtiebbgbcojgeoaaGreatDoor
open Go.RowKit Go.Shelf
attribute [local go_sem] Oper.semAt_some
section
variable {o : Oper} {a : Act} {w : World} {K : Act → World → Prop} {Q : Exit → Act → World → Prop}
theorem mo_geqI {x y : Operand} {m n : Int} (ho : o.op = Op.binOp BinOp.geq 3 x y 3) (hx : a.eval x = .int .i64 m) (hy : a.eval y = .int .i64 n) (hK : K (a.put o.dst (.bool (decide (n ≤ m)))) w) : Oper.wp Tryz.prog o a w K Q :=
  mo_run (by simp only [execOp, ho, hx, hy]; simp [go_sem]) hK
theorem mo_subI {x y : Operand} {m n : Int} (hw : IntKind.i64.wrap (m - n) = m - n) (ho : o.op = Op.binOp BinOp.sub 3 x y 3) (hx : a.eval x = .int .i64 m) (hy : a.eval y = .int .i64 n) (hK : K (a.put o.dst (.int .i64 (m - n))) w) : Oper.wp Tryz.prog o a w K Q :=
  mo_run (by simp only [execOp, ho, hx, hy]; simp [go_sem, hw]) hK
theorem mo_index {x y : Operand} {T : TypeId} {u z p : Value} (hr : (Instr.indexAt T u z).run Tryz.prog w = .ok p w) (ho : o.op = Op.indexAddr T x y) (hx : a.eval x = u) (hy : a.eval y = z) (hK : K (a.put o.dst p) w) : Oper.wp Tryz.prog o a w K Q :=
  mo_run (by simp only [execOp, ho, hx, hy]; simp [hr]) hK
theorem mo_lenII {x : Operand} {f : Option Addr} {n c : Nat} (ho : o.op = Op.call { callee := Callee.builtin Builtin.len, args := #[x], argTypes := #[88] }) (hx : a.eval x = .slice f n c) (hK : K (a.put o.dst (.int .i64 n)) w) : Oper.wp Tryz.prog o a w K Q :=
  mo_run (by
    generalize a.eval = ρ at hx ⊢
    simp only [execOp, ho]
    simp [go_sem, resolve, invoke, hx]) hK
theorem mo_lenSS {x : Operand} {f : Option Addr} {n c : Nat} (ho : o.op = Op.call { callee := Callee.builtin Builtin.len, args := #[x], argTypes := #[69] }) (hx : a.eval x = .slice f n c) (hK : K (a.put o.dst (.int .i64 n)) w) : Oper.wp Tryz.prog o a w K Q :=
  mo_run (by
    generalize a.eval = ρ at hx ⊢
    simp only [execOp, ho]
    simp [go_sem, resolve, invoke, hx]) hK
theorem mo_call4 {T : Value → World → Prop} {x y z t : Operand} {u v2 v3 v4 : Value} (F : Nat) {T1 T2 T3 T4 : TypeId} (ho : o.op = Op.call { callee := Callee.value (Operand.func F), args := #[x, y, z, t], argTypes := #[T1, T2, T3, T4] }) (hx : a.eval x = u) (hy : a.eval y = v2) (hz : a.eval z = v3) (ht : a.eval t = v4)
    (en : ∀ args w, (callFunc F args).run Tryz.prog w = .ok (.enter F args) w) (hC : Calls Tryz.prog F #[u, v2, v3, v4] w fun e w' => ∃ v, e = .returned v ∧ T v w') (hK : ∀ v w', T v w' → K (a.put o.dst v) w') : Oper.wp Tryz.prog o a w K Q := by
  unfold Oper.wp
  have e : (execOp a.eval o).run Tryz.prog w = .ok (.enter F #[u, v2, v3, v4]) w := by
    have hf : a.eval (.func F) = .func (.func F) #[] #[] := rfl
    generalize a.eval = ρ at hx hy hz ht hf ⊢
    simp only [execOp, ho]
    simp [go_sem, resolve, invoke, hx, hy, hz, ht, hf, en]
  rw [e]
  refine hC.mono ?_
  rintro e w' ⟨v, rfl, h⟩
  exact hK v w' h
theorem load_str1 {b i : Nat} {s : ByteArray} (c : w.cell? ⟨b, i, none⟩ = some (.string s)) : (Instr.loadAt 9 (.pointer (some ⟨b, i, none⟩))).run Tryz.prog w = .ok (.string s) w := by simp [go_sem, c]
theorem load_ints1 {b i : Nat} {f : Option Addr} {n m : Nat} (c : w.cell? ⟨b, i, none⟩ = some (.slice f n m)) : (Instr.loadAt 88 (.pointer (some ⟨b, i, none⟩))).run Tryz.prog w = .ok (.slice f n m) w := by simp [go_sem, c]
theorem idx_strs {b n c i : Nat} (h : i < n) : (Instr.indexAt 69 (.slice (some ⟨b, 0, none⟩) n c) (.int .i64 (i : Nat))).run Tryz.prog w = .ok (.pointer (some ⟨b, i, none⟩)) w := by
  simp [go_sem, h]
end
end Go.Proofs.YtiebbgbcojgeoaaGreatDoor

namespace Go.Proofs.YtiebbgbcojgeoaaGreatDoor
open Go.RowKit Go.Maps

/-- How a map in a map reads: by its block. -/
def refElem : Value → Option (DataW Unit × List MemPlace)
  | .map (some b) => some (.lit (.int .i64 (b : Int)), [])
  | .map none => some (.lit (.int .i64 (-1)), [])
  | _ => none
theorem refElem_inv {v : Value} {z : DataW Unit × List MemPlace} (h : refElem v = some z) : ∃ o, v = .map o := by
  unfold refElem at h
  split at h
  · exact ⟨_, rfl⟩
  · exact ⟨_, rfl⟩
  · cases h
theorem refElem_some {v : Value} {c : Nat} {ps : List MemPlace} (h : refElem v = some (.lit (.int .i64 (c : Int)), ps)) : v = .map (some c) := by
  obtain ⟨o, rfl⟩ := refElem_inv h
  cases o with
  | none =>
    have h1 : some ((.lit (.int .i64 (-1)) : DataW Unit), ([] : List MemPlace)) = some (.lit (.int .i64 (c : Int)), ps) := h
    injection h1 with h1
    injection h1 with h1 _
    injection h1 with h1
    injection h1 with _ h1
    omega
  | some b =>
    have h1 : some ((.lit (.int .i64 (b : Int)) : DataW Unit), ([] : List MemPlace)) = some (.lit (.int .i64 (c : Int)), ps) := h
    injection h1 with h1
    injection h1 with h1 _
    injection h1 with h1
    injection h1 with _ h1
    have : b = c := by omega
    rw [this]
theorem refElem_none {v : Value} {ps : List MemPlace} (h : refElem v = some (.lit (.int .i64 (-1)), ps)) : v = .map none := by
  obtain ⟨o, rfl⟩ := refElem_inv h
  cases o with
  | none => rfl
  | some b =>
    have h1 : some ((.lit (.int .i64 (b : Int)) : DataW Unit), ([] : List MemPlace)) = some (.lit (.int .i64 (-1)), ps) := h
    injection h1 with h1
    injection h1 with h1 _
    injection h1 with h1
    injection h1 with _ h1
    omega
theorem keyS : Keyed Tryz.prog 9 := string_keyed Tryz.underlying9
theorem keyI : Keyed Tryz.prog 3 := int_keyed Tryz.underlying3
theorem litS (s : List UInt8) : WideAt.IsKeyLit (.string s) := by first | exact trivial | exact rfl | decide
theorem litI {a : Int} (h : (Lit.int .i64 a).wf = true) : WideAt.IsKeyLit (.int .i64 a) := by first | exact trivial | exact h | exact rfl
/-- A map from texts to blocks. -/
def RefM (w : World) (b n : Nat) (f : List UInt8 → Option Nat) : Prop :=
  ∃ D : DataW Unit, w.ownsMap Tryz.prog 9 refElem b n D ∧ (∀ k, has D (.string k) = (f k).isSome) ∧ ∀ k c, f k = some c → ∀ z, D.atKey (.string k) z = .lit (.int .i64 (c : Int))
theorem RefM.lt {w : World} {b n : Nat} {f : List UInt8 → Option Nat} (h : RefM w b n f) : b < w.heap.size := by obtain ⟨D, h, _⟩ := h; exact h.lt
theorem RefM.same {w w' : World} {b n : Nat} {f : List UInt8 → Option Nat} (h : RefM w b n f) (hs : w'.heap[b]? = w.heap[b]?) : RefM w' b n f := by
  obtain ⟨D, ⟨es, clock, hb, r⟩, h2⟩ := h
  exact ⟨D, ⟨es, clock, hs.trans hb, r⟩, h2⟩
theorem RefM.only {w w' : World} {b n : Nat} {f : List UInt8 → Option Nat} {S : Nat → Prop} (h : RefM w b n f) (g : Only S w w') (hs : ¬ S b) : RefM w' b n f := h.same (g.same b h.lt hs)
theorem RefM.mono {w : World} {b n m : Nat} {f : List UInt8 → Option Nat} (h : RefM w b n f) (hm : n ≤ m) : RefM w b m f := by obtain ⟨D, h, r⟩ := h; exact ⟨D, h.mono hm, r⟩
theorem RefM.made (w : World) : RefM (w.alloc (.map #[] 0)) w.heap.size 0 (fun _ => none) :=
  ⟨.map [], World.ownsMap_made w _ _ _, (fun k => rfl), fun k c h => by cases h⟩
/-- m[k], of whatever map type with texts as keys and maps as elements. -/
theorem RefM.look {w : World} {b n : Nat} {f : List UInt8 → Option Nat} (h : RefM w b n f) {t e : TypeId} (ht : Tryz.prog.underlying t = some (.map 9 e)) (hz : (zeroValue e).run Tryz.prog w = .ok (.map none) w) (s : ByteArray) (hs : s.size ≤ maxLen) :
    (Instr.lookup t (.map (some b)) (.string s) false).run Tryz.prog w = .ok (.map (f s.data.toList)) w := by
  obtain ⟨D, ho, h1, h2⟩ := h
  obtain ⟨v, ps, hrun, hat⟩ := ho.lookup keyS ht hz (show refElem (.map none) = some (.lit (.int .i64 (-1)), []) from rfl) (Go.WideMaps.keyOf_string_mk Tryz.underlying9 hs)
  rw [hrun]
  cases hf : f s.data.toList with
  | none =>
    have := h1 s.data.toList
    rw [hf] at this
    rw [Maps.atKey_of_not_has this] at hat
    rw [refElem_none hat]
  | some c =>
    rw [h2 _ c hf] at hat
    rw [refElem_some hat]
theorem RefM.store {w : World} {b n : Nat} {f : List UInt8 → Option Nat} (h : RefM w b n f) {t e : TypeId} (ht : Tryz.prog.underlying t = some (.map 9 e)) (hn : n < maxLen) (s : ByteArray) (hs : s.size ≤ maxLen) (c : Nat) :
    ∃ w', (Instr.mapUpdate t (.map (some b)) (.string s) (.map (some c))).run Tryz.prog w = .ok () w' ∧ RefM w' b (n + 1) (fun k => if k = s.data.toList then some c else f k) ∧ Only (· = b) w w' ∧ w'.heap.size = w.heap.size := by
  obtain ⟨D, ho, h1, h2⟩ := h
  have hm := ho.isMap
  obtain ⟨w', hrun, ho', ht'⟩ := ho.store keyS ht hn (Go.WideMaps.keyOf_string_mk Tryz.underlying9 hs) (show refElem (.map (some c)) = some (.lit (.int .i64 (c : Int)), []) from rfl)
  refine ⟨w', hrun, ⟨_, ho', fun k => ?_, fun k d hk z => ?_⟩, (Only.refl _ w).grown ht'.grown (fun k hk => .inl (by cases hk; rfl)), ?_⟩
  · dsimp only
    by_cases q : k = s.data.toList
    · subst q
      rw [Maps.has_put_same hm (litS _), if_pos rfl]; rfl
    · rw [Maps.has_put_other (fun e => q (by injection e)), if_neg q, h1]
  · dsimp only at hk
    by_cases q : k = s.data.toList
    · subst q
      rw [if_pos rfl] at hk
      cases hk
      exact Maps.atKey_put_same hm (litS _) _ _
    · rw [if_neg q] at hk
      rw [Maps.atKey_put_other (fun e => q (by injection e))]
      exact h2 k d hk z
  · obtain ⟨es, clock, es', clock', hb, rfl⟩ := ht'
    show (w.heap.setIfInBounds b (.map es' clock')).size = _
    exact Array.size_setIfInBounds
theorem RefM.drop {w : World} {b n : Nat} {f : List UInt8 → Option Nat} (h : RefM w b n f) {t e : TypeId} (ht : Tryz.prog.underlying t = some (.map 9 e)) (s : ByteArray) (hs : s.size ≤ maxLen) (ty : TypeId) :
    ∃ w', (Builtin.delete_ #[t, 9] ty #[.map (some b), .string s]).run Tryz.prog w = .ok (.tuple #[]) w' ∧ RefM w' b n (fun k => if k = s.data.toList then none else f k) ∧ Only (· = b) w w' ∧ w'.heap.size = w.heap.size := by
  obtain ⟨D, ho, h1, h2⟩ := h
  obtain ⟨w', hrun, ho', ht'⟩ := ho.drop keyS ht (Go.WideMaps.keyOf_string_mk Tryz.underlying9 hs) ty
  refine ⟨w', hrun, ⟨_, ho', fun k => ?_, fun k d hk z => ?_⟩, (Only.refl _ w).grown ht'.grown (fun k hk => .inl (by cases hk; rfl)), ?_⟩
  · dsimp only
    by_cases q : k = s.data.toList
    · subst q
      rw [Maps.has_del_same, if_pos rfl]; rfl
    · rw [Maps.has_del_other (fun e => q (by injection e)), if_neg q, h1]
  · dsimp only at hk
    by_cases q : k = s.data.toList
    · rw [if_pos q] at hk; cases hk
    · rw [if_neg q] at hk
      rw [Maps.atKey_del_other (fun e => q (by injection e))]
      exact h2 k d hk z
  · obtain ⟨es, clock, es', clock', hb, rfl⟩ := ht'
    show (w.heap.setIfInBounds b (.map es' clock')).size = _
    exact Array.size_setIfInBounds
/-- A map from numbers to counts: 0 of what isn't in it. -/
def CntM (w : World) (b n : Nat) (f : Int → Nat) : Prop :=
  ∃ D : DataW Unit, w.ownsMap Tryz.prog 3 (plainElem Tryz.prog 3) b n D ∧ (∀ k, has D (.int .i64 k) = true ↔ 0 < f k) ∧ ∀ k, 0 < f k → ∀ z, D.atKey (.int .i64 k) z = .lit (.int .i64 (f k : Int))
theorem CntM.lt {w : World} {b n : Nat} {f : Int → Nat} (h : CntM w b n f) : b < w.heap.size := by obtain ⟨D, h, _⟩ := h; exact h.lt
theorem CntM.same {w w' : World} {b n : Nat} {f : Int → Nat} (h : CntM w b n f) (hs : w'.heap[b]? = w.heap[b]?) : CntM w' b n f := by
  obtain ⟨D, ⟨es, clock, hb, r⟩, h2⟩ := h
  exact ⟨D, ⟨es, clock, hs.trans hb, r⟩, h2⟩
theorem CntM.only {w w' : World} {b n : Nat} {f : Int → Nat} {S : Nat → Prop} (h : CntM w b n f) (g : Only S w w') (hs : ¬ S b) : CntM w' b n f := h.same (g.same b h.lt hs)
theorem CntM.mono {w : World} {b n m : Nat} {f : Int → Nat} (h : CntM w b n f) (hm : n ≤ m) : CntM w b m f := by obtain ⟨D, h, r⟩ := h; exact ⟨D, h.mono hm, r⟩
theorem CntM.made (w : World) : CntM (w.alloc (.map #[] 0)) w.heap.size 0 (fun _ => 0) :=
  ⟨.map [], World.ownsMap_made w _ _ _, (fun k => ⟨fun h => (by cases h), fun h => (by cases h)⟩), fun k h => by cases h⟩
theorem lit_int {a b : Int} (h : (.lit (.int .i64 a) : DataW Unit) = .lit (.int .i64 b)) : a = b := by
  injection h with h
  injection h with _ h
theorem hrun_eq {a b : Int} {w : World} (h : a = b) : (.ok (.int .i64 a) w : Result Value) = .ok (.int .i64 b) w := by rw [h]
theorem CntM.look {w : World} {b n : Nat} {f : Int → Nat} (h : CntM w b n f) {t : TypeId} (ht : Tryz.prog.underlying t = some (.map 3 3)) (id : Int) (hw : (Lit.int .i64 id).wf = true) :
    (Instr.lookup t (.map (some b)) (.int .i64 id) false).run Tryz.prog w = .ok (.int .i64 (f id : Nat)) w := by
  obtain ⟨D, ho, h1, h2⟩ := h
  obtain ⟨v, ps, hrun, hat⟩ := ho.lookup keyI ht (show (zeroValue 3).run Tryz.prog w = .ok (.int .i64 0) w by kernel_rfl) (plainElem_int (H := Unit) Tryz.underlying3 (a := 0) (by decide)) (Maps.keyOf_int_mk Tryz.underlying3 hw)
  obtain ⟨c, rfl, hc, _⟩ := plainElem_int_inv Tryz.underlying3 hat
  rw [hrun]
  have hc1 := (Prod.mk.inj hc).1
  by_cases q : 0 < f id
  · rw [h2 id q] at hc1
    exact hrun_eq (lit_int hc1).symm
  · have := h1 id
    rw [Maps.atKey_of_not_has (Bool.eq_false_iff.2 fun e => q (this.1 e))] at hc1
    rw [show f id = 0 by omega]
    exact hrun_eq (lit_int hc1).symm
theorem CntM.store {w : World} {b n : Nat} {f : Int → Nat} (h : CntM w b n f) {t : TypeId} (ht : Tryz.prog.underlying t = some (.map 3 3)) (hn : n < maxLen) (id : Int) (hw : (Lit.int .i64 id).wf = true) (c : Nat) (hc : 0 < c) (hcw : (Lit.int .i64 (c : Int)).wf = true) :
    ∃ w', (Instr.mapUpdate t (.map (some b)) (.int .i64 id) (.int .i64 (c : Int))).run Tryz.prog w = .ok () w' ∧ CntM w' b (n + 1) (fun k => if k = id then c else f k) ∧ Only (· = b) w w' ∧ w'.heap.size = w.heap.size := by
  obtain ⟨D, ho, h1, h2⟩ := h
  have hm := ho.isMap
  obtain ⟨w', hrun, ho', ht'⟩ := ho.store keyI ht hn (Maps.keyOf_int_mk Tryz.underlying3 hw) (plainElem_int (H := Unit) Tryz.underlying3 hcw)
  refine ⟨w', hrun, ⟨_, ho', fun k => ?_, fun k hk z => ?_⟩, (Only.refl _ w).grown ht'.grown (fun k hk => .inl (by cases hk; rfl)), ?_⟩
  · dsimp only
    by_cases q : k = id
    · subst q
      rw [Maps.has_put_same hm (litI hw), if_pos rfl]; exact ⟨fun _ => hc, fun _ => rfl⟩
    · rw [Maps.has_put_other (fun e => q (by injection e)), if_neg q, h1]
  · dsimp only at hk ⊢
    by_cases q : k = id
    · subst q
      rw [if_pos rfl]
      exact Maps.atKey_put_same hm (litI hw) _ _
    · rw [if_neg q] at hk ⊢
      rw [Maps.atKey_put_other (fun e => q (by injection e))]
      exact h2 k hk z
  · obtain ⟨es, clock, es', clock', hb, rfl⟩ := ht'
    show (w.heap.setIfInBounds b (.map es' clock')).size = _
    exact Array.size_setIfInBounds
theorem CntM.drop {w : World} {b n : Nat} {f : Int → Nat} (h : CntM w b n f) {t : TypeId} (ht : Tryz.prog.underlying t = some (.map 3 3)) (id : Int) (hw : (Lit.int .i64 id).wf = true) (ty : TypeId) :
    ∃ w', (Builtin.delete_ #[t, 3] ty #[.map (some b), .int .i64 id]).run Tryz.prog w = .ok (.tuple #[]) w' ∧ CntM w' b n (fun k => if k = id then 0 else f k) ∧ Only (· = b) w w' ∧ w'.heap.size = w.heap.size := by
  obtain ⟨D, ho, h1, h2⟩ := h
  obtain ⟨w', hrun, ho', ht'⟩ := ho.drop keyI ht (Maps.keyOf_int_mk Tryz.underlying3 hw) ty
  refine ⟨w', hrun, ⟨_, ho', fun k => ?_, fun k hk z => ?_⟩, (Only.refl _ w).grown ht'.grown (fun k hk => .inl (by cases hk; rfl)), ?_⟩
  · dsimp only
    by_cases q : k = id
    · subst q
      rw [Maps.has_del_same, if_pos rfl]; exact ⟨fun h => (by cases h), fun h => (by cases h)⟩
    · rw [Maps.has_del_other (fun e => q (by injection e)), if_neg q, h1]
  · dsimp only at hk ⊢
    by_cases q : k = id
    · rw [if_pos q] at hk; omega
    · rw [if_neg q] at hk ⊢
      rw [Maps.atKey_del_other (fun e => q (by injection e))]
      exact h2 k hk z
  · obtain ⟨es, clock, es', clock', hb, rfl⟩ := ht'
    show (w.heap.setIfInBounds b (.map es' clock')).size = _
    exact Array.size_setIfInBounds
/-- A set of numbers. -/
def SetM (w : World) (b n : Nat) (f : Int → Bool) : Prop :=
  ∃ D : DataW Unit, w.ownsMap Tryz.prog 3 unitElem b n D ∧ ∀ k, has D (.int .i64 k) = f k
theorem SetM.lt {w : World} {b n : Nat} {f : Int → Bool} (h : SetM w b n f) : b < w.heap.size := by obtain ⟨D, h, _⟩ := h; exact h.lt
theorem SetM.same {w w' : World} {b n : Nat} {f : Int → Bool} (h : SetM w b n f) (hs : w'.heap[b]? = w.heap[b]?) : SetM w' b n f := by
  obtain ⟨D, ⟨es, clock, hb, r⟩, h2⟩ := h
  exact ⟨D, ⟨es, clock, hs.trans hb, r⟩, h2⟩
theorem SetM.only {w w' : World} {b n : Nat} {f : Int → Bool} {S : Nat → Prop} (h : SetM w b n f) (g : Only S w w') (hs : ¬ S b) : SetM w' b n f := h.same (g.same b h.lt hs)
theorem SetM.mono {w : World} {b n m : Nat} {f : Int → Bool} (h : SetM w b n f) (hm : n ≤ m) : SetM w b m f := by obtain ⟨D, h, r⟩ := h; exact ⟨D, h.mono hm, r⟩
theorem SetM.made (w : World) : SetM (w.alloc (.map #[] 0)) w.heap.size 0 (fun _ => false) := ⟨.map [], World.ownsMap_made w _ _ _, fun k => rfl⟩
end Go.Proofs.YtiebbgbcojgeoaaGreatDoor

namespace Go.Proofs.YtiebbgbcojgeoaaGreatDoor
open Go.RowKit Go.Maps

/-- What a block of the index is for: (1, key) a key's values, (2, key, value) a value's holders; 3 the index, 4 its numbers, 5 its keys. -/
abbrev Tag := Nat × List UInt8 × List UInt8
/-- A value's holders. -/
def HoldAt (w : World) (T : Nat → Tag) (lo : Nat) (k v : List UInt8) (n : Nat) (c : Option Nat) (f : Int → Nat) : Prop :=
  match c with
  | none => ∀ i, f i = 0
  | some c => T c = (2, k, v) ∧ lo ≤ c ∧ CntM w c n f ∧ ∃ i, 0 < f i
/-- A key's values. -/
def ValAt (w : World) (T : Nat → Tag) (lo : Nat) (k : List UInt8) (b n : Nat) (f : List UInt8 → Int → Nat) : Prop :=
  T b = (1, k, []) ∧ lo ≤ b ∧ ∃ g, RefM w b n g ∧ ∀ v, HoldAt w T lo k v n (g v) (f v)
/-- A block is a key's. -/
def OfKey (T : Nat → Tag) (k : List UInt8) (c : Nat) : Prop := T c = (1, k, []) ∨ ∃ v, T c = (2, k, v)
theorem HoldAt.mono {w : World} {T : Nat → Tag} {lo n m : Nat} {k v : List UInt8} {c : Option Nat} {f : Int → Nat} (h : HoldAt w T lo k v n c f) (hm : n ≤ m) : HoldAt w T lo k v m c f := by
  cases c with
  | none => exact h
  | some c => exact ⟨h.1, h.2.1, h.2.2.1.mono hm, h.2.2.2⟩
theorem HoldAt.turn {w w' : World} {T T' : Nat → Tag} {lo n : Nat} {k v : List UInt8} {c : Option Nat} {f : Int → Nat} {S : Nat → Prop} (h : HoldAt w T lo k v n c f) (g : Only S w w') (ht : ∀ c, c < w.heap.size → T' c = T c) (hs : ∀ c, T c = (2, k, v) → ¬ S c) : HoldAt w' T' lo k v n c f := by
  cases c with
  | none => exact h
  | some c => exact ⟨(ht c h.2.2.1.lt).trans h.1, h.2.1, h.2.2.1.only g (hs c h.1), h.2.2.2⟩
theorem ValAt.turn {w w' : World} {T T' : Nat → Tag} {lo b n : Nat} {k : List UInt8} {f : List UInt8 → Int → Nat} {S : Nat → Prop} (h : ValAt w T lo k b n f) (g : Only S w w') (ht : ∀ c, c < w.heap.size → T' c = T c) (hs : ∀ c, OfKey T k c → ¬ S c) : ValAt w' T' lo k b n f := by
  obtain ⟨h1, h2, g', h3, h4⟩ := h
  exact ⟨(ht b h3.lt).trans h1, h2, g', h3.only g (hs b (.inl h1)), fun v => (h4 v).turn g ht fun c hc => hs c (.inr ⟨v, hc⟩)⟩
theorem ValAt.mono {w : World} {T : Nat → Tag} {lo b n m : Nat} {k : List UInt8} {f : List UInt8 → Int → Nat} (h : ValAt w T lo k b n f) (hm : n ≤ m) : ValAt w T lo k b m f := by
  obtain ⟨h1, h2, g', h3, h4⟩ := h
  exact ⟨h1, h2, g', h3.mono hm, fun v => (h4 v).mono hm⟩
/-- One more of a value's. -/
def upF (f : List UInt8 → Int → Nat) (s : List UInt8) (id : Int) : List UInt8 → Int → Nat := fun v i => if v = s ∧ i = id then f v i + 1 else f v i

set_option maxRecDepth 100000 in
set_option maxHeartbeats 2000000 in
theorem add_any {w : World} {T : Nat → Tag} {lo b n : Nat} {k : List UInt8} {f : List UInt8 → Int → Nat} (h : ValAt w T lo k b n f) (s : ByteArray) (hs : s.size ≤ maxLen) (id : Int) (hw : (Lit.int .i64 id).wf = true) (hn : n ≤ 1000000) (hc : f s.data.toList id ≤ 1000000) (hlo : lo ≤ w.heap.size) :
    Calls Tryz.prog 116 #[.map (some b), .string s, .int .i64 id] w fun e w' => e = .returned (.tuple #[]) ∧
      ∃ T', (∀ c, c < w.heap.size → T' c = T c) ∧ ValAt w' T' lo k b (n + 1) (upF f s.data.toList id) ∧ Only (OfKey T k) w w' := by
  obtain ⟨h1, h2, g, h3, h4⟩ := h
  have hg := h4 s.data.toList
  have lk := h3.look Tryz.underlying157 (show (zeroValue 164).run Tryz.prog w = .ok (.map none) w by kernel_rfl) s hs
  have hmm := @run_makeMap Tryz.prog
  have e1 : ∀ c w, (binOp BinOp.eql 164 (.map (some c)) (.map none)).run Tryz.prog w = .ok (.bool false) w := fun c w => Go.run_eql_map_nil w _ _ _ _ Tryz.underlying164
  have e2 : ∀ w, (binOp BinOp.eql 164 (.map none) (.map none)).run Tryz.prog w = .ok (.bool true) w := fun w => Go.run_eql_map_nil w _ _ _ _ Tryz.underlying164
  cases hgs : g s.data.toList with
  | none =>
    rw [hgs] at hg lk
    obtain ⟨w1, hrun1, p1, p2, p3⟩ := (h3.same (Below.heap_alloc w (.map #[] 0) b h3.lt)).store Tryz.underlying157 (by unfold maxLen; omega) s hs w.heap.size
    obtain ⟨w2, hrun2, r1, r2, r3⟩ := ((CntM.made w).only p2 (by have := h3.lt; omega)).store Tryz.underlying164 (by unfold maxLen; omega) id hw 1 (by omega) (by decide)
    rw [show ((1 : Nat) : Int) = 1 from rfl] at hrun2
    have lk1 := p1.look Tryz.underlying157 (show (zeroValue 164).run Tryz.prog w1 = .ok (.map none) w1 by kernel_rfl) s hs
    rw [if_pos rfl] at lk1
    have lc := ((CntM.made w).only p2 (by have := h3.lt; omega)).look Tryz.underlying164 id hw
    go_enter Tryz.func116, Tryz.ntmps116
    go_wp2
    go_end0
    have hb := h3.lt
    have o1 : Only (· = b) w w1 := ((Only.refl _ w).alloc (.map #[] 0)).trans p2 (fun _ _ e => e)
    have o2 : Only (· = b) w w2 := o1.trans r2 fun r hr e => absurd e (by omega)
    have hT : ∀ c, c < w.heap.size → (if c = w.heap.size then ((2, k, s.data.toList) : Tag) else T c) = T c := fun c hc => if_neg (by omega)
    refine ⟨rfl, fun c => if c = w.heap.size then (2, k, s.data.toList) else T c, hT, ⟨(hT b hb).trans h1, h2, _, p1.only r2 (by omega), fun v => ?_⟩, o2.mono fun r _ e => by subst e; exact .inl h1⟩
    by_cases hv : v = s.data.toList
    · subst hv
      rw [if_pos rfl]
      refine ⟨if_pos rfl, hlo, ?_, ⟨id, by simp [upF]⟩⟩
      have : (fun k => if k = id then 1 else 0) = upF f s.data.toList id s.data.toList := by
        funext i
        have := hg i
        by_cases hi : i = id
        · subst hi; simp [upF, this]
        · simp [upF, hi, this]
      rw [← this]; exact r1.mono (by omega)
    · have : upF f s.data.toList id v = f v := by funext i; simp [upF, hv]
      rw [this, if_neg hv]
      exact ((h4 v).turn o2 hT (fun d hd e => by subst e; rw [h1] at hd; injection hd with hd; omega)).mono (by omega)
  | some c =>
    rw [hgs] at hg lk
    obtain ⟨c1, c2, c3, c4⟩ := hg
    have lc := c3.look Tryz.underlying164 id hw
    obtain ⟨w', hrun, q1, q2, q3⟩ := c3.store Tryz.underlying164 (by unfold maxLen; omega) id hw (f s.data.toList id + 1) (by omega) (by simp [Lit.wf, IntKind.min, IntKind.max, IntKind.signed, IntKind.bits]; omega)
    have hcast : ((f s.data.toList id + 1 : Nat) : Int) = (f s.data.toList id : Int) + 1 := by simp
    rw [hcast] at hrun
    go_enter Tryz.func116, Tryz.ntmps116
    go_wp2
    go_end0
    have hne : ∀ v, v ≠ s.data.toList → ∀ d, T d = (2, k, v) → d ≠ c := by
      intro v hv d hd e; subst e; rw [hd] at c1; injection c1 with _ c1; injection c1 with _ c1; exact hv c1
    refine ⟨rfl, T, fun _ _ => rfl, ⟨h1, h2, g, (h3.only q2 (by intro e; subst e; rw [h1] at c1; injection c1 with c1; omega)).mono (by omega), fun v => ?_⟩, q2.mono fun r _ e => by subst e; exact .inr ⟨_, c1⟩⟩
    by_cases hv : v = s.data.toList
    · subst hv
      rw [hgs]
      refine ⟨c1, c2, ?_, ⟨id, by simp [upF]⟩⟩
      have : (fun k => if k = id then f s.data.toList id + 1 else f s.data.toList k) = upF f s.data.toList id s.data.toList := by
        funext i; by_cases hi : i = id <;> simp [upF, hi]
      rw [← this]; exact q1
    · have : upF f s.data.toList id v = f v := by funext i; simp [upF, hv]
      rw [this]
      exact ((h4 v).turn q2 (fun _ _ => rfl) (hne v hv)).mono (by omega)
end Go.Proofs.YtiebbgbcojgeoaaGreatDoor

